/- Packed from the texts JwC JwD. -/
import Derived.Test.YtdooadalkbghgaaDoorVkE
import Derived.Test.YtdooadalkbghgaaDoorVkM
import Derived.Test.YtdooadalkbghgaaDoorVkU
import Derived.Deep.Cut
import Derived.Deep.QuietTactic
import Derived.BigQuiet
section
namespace Go.Proofs.YtdooadalkbghgaaDoor
open Go.RowKit
theorem okMs_drop (l : List MemD) (j : Nat) (h : j < l.length) : okMs ((l.take j).map MemD.key) (l.drop j) = ((!(((l.take j).map MemD.key).any fun x => decide (x = l[j].key)) && (vaL l[j].key.data.toList && l[j].v.okB)) && okMs ((l.take (j + 1)).map MemD.key) (l.drop (j + 1))) := by
  have ht : l.take (j + 1) = l.take j ++ [l[j]] := List.take_succ_eq_append_getElem h
  rw [List.drop_eq_getElem_cons h, okMs, mok_eq, ht, List.map_append]
  rfl
theorem any_keys (l : List MemD) (j k : Nat) (y : ByteArray) (hk : k < j) (hj : j ≤ l.length) : (((l.take j).drop k).any fun m => decide (m.key = y)) = (decide ((l[k]'(by omega)).key = y) || (((l.take j).drop (k + 1)).any fun m => decide (m.key = y))) := by
  have hlen : k < (l.take j).length := by rw [List.length_take]; omega
  rw [List.drop_eq_getElem_cons hlen, List.any_cons, List.getElem_take]
theorem any_map_key (l : List MemD) (y : ByteArray) : ((l.map MemD.key).any fun x => decide (x = y)) = l.any fun m => decide (m.key = y) := by rw [List.any_map]; rfl
theorem okVs_drop (l : List ValD) (i : Nat) (h : i < l.length) : okVs (l.drop i) = (l[i].okB && okVs (l.drop (i + 1))) := by rw [List.drop_eq_getElem_cons h, okVs]
theorem below_hp {B : Nat} {a w w' : World} (h : Below B a w) (h1 : w'.os = w.os) (h2 : w'.tape = w.tape) (h3 : w'.output = w.output) (h4 : w'.heap = w.heap) : Below B a w' := h.trans ⟨h1, h2, h3, by rw [h4]; exact Nat.le_refl _, fun k _ => by rw [h4]⟩
def OkVC (f : Nat) : Prop := ∀ (n : ValD) (v : Value) (w : World), n.bulk ≤ f → n.bulk ≤ 1000000 → ValIs w n v → Calls Tryd.prog 30 #[v] w fun e w' => e = .returned (.bool n.okB) ∧ Below w.heap.size w w'
theorem jretBo {a b : Bool} (h : a = b) : Ending.returned (.bool a) = .returned (.bool b) := by rw [h]
set_option maxRecDepth 100000 in
set_option maxHeartbeats 64000000 in
theorem okV_step (f : Nat) (IH : OkVC f) : OkVC (f + 1) := by
    intro n v w hf hc hn
    have HO := Lib.hid (vok_eq n)
    have hbe := vbulk_eq n
    have HIM := Lib.hid (fun (k : ValD) (hk : k ∈ n.items) => show k.bulk ≤ f ∧ k.bulk ≤ 1000000 by have := bulk_item n k hk; omega)
    have HMM := Lib.hid (fun (m : MemD) (hm : m ∈ n.mems) => show m.v.bulk ≤ f ∧ m.v.bulk ≤ 1000000 ∧ m.key.size ≤ 1000000 by have := bulk_mem n m hm; omega)
    have hil : (n.items.length : Int) ≤ 1000000 := by have := bulkVs_len n.items; omega
    have hml : (n.mems.length : Int) ≤ 1000000 := by have := bulkMs_len n.mems; omega
    have cV : ∀ wx, _ := fun wx => jref_Valid n.s wx (by omega)
    have hP : properB n = decide ((0 ≤ n.kind ∧ n.kind ≤ 5) ∧ (n.kind = 1 ∨ n.b = false) ∧ (n.kind = 2 ∨ n.n = 0) ∧ (n.kind = 3 ∨ n.s.size = 0) ∧ (n.kind = 4 ∨ n.items.length = 0) ∧ (n.kind = 5 ∨ n.mems.length = 0)) := rfl
    obtain ⟨p, c, q, d, rfl, hI, hM⟩ := (val_is w n v).1 hn
    generalize properB n = P at *
    clear hn hf hbe hc
    generalize n.okB = OK at *
    generalize n.kind = kd at *
    generalize n.b = bb at *
    generalize n.n = nn at *
    generalize n.s = ss at *
    generalize n.items = items at *
    generalize n.mems = mems at *
    generalize n.at' = aa at *
    have HP := Lib.hid hP
    clear hP
    have HI := Lib.hid hI
    have HM := Lib.hid hM
    obtain ⟨W0, hW0⟩ : ∃ W0, W0 = (w.alloc (.cells #[.int .i64 kd, .bool bb, .int .i64 nn, .string ss, .slice p items.length c, .slice q mems.length d, .int .i64 aa] 25)) := ⟨_, rfl⟩
    have B0 : Bj W0 w.heap.size #[.int .i64 kd, .bool bb, .int .i64 nn, .string ss, .slice p items.length c, .slice q mems.length d, .int .i64 aa] 25 := by rw [hW0]; exact Bj.new w _ _
    have hb0 : Below w.heap.size w W0 := by rw [hW0]; exact (Below.refl _ _).alloc (Nat.le_refl _) _
    obtain ⟨⟨f0, f1, f2, f3, f4, f5, -⟩, -⟩ := B0.seven
    have HB0 := Lib.hid hb0
    have HBJ := Lib.hid B0
    clear hb0 B0 hI hM
    go_enter Tryd.func30, Tryd.ntmps30
    go_upto_region 1 with fail
    simp only [← hW0]
    clear hW0
    go_upto_region 2 with fail
    go_cut [66] (fun b wx => b = .bool (!(P && vaL ss.data.toList)) ∧ Below W0.heap.size W0 wx)
    case first =>
      have hsz : W0.heap.size = W0.heap.size := rfl
      clear hsz
      by_cases hk1 : kd < 0
      · have hk2 : ¬ (0 : Int) ≤ kd := by omega
        have hPF : P = false := by
          rw [HP.out]
          refine decide_eq_false ?_
          rintro ⟨⟨a1, a2⟩, a3, a4, a5, a6, a7⟩
          omega
        clear HP
        go_wp2
        go_meet
        exact ⟨by rw [hPF]; rfl, Below.refl _ _⟩
      by_cases hk3 : 5 < kd
      · have hPF : P = false := by
          rw [HP.out]
          refine decide_eq_false ?_
          rintro ⟨⟨a1, a2⟩, a3, a4, a5, a6, a7⟩
          omega
        clear HP
        go_wp2
        go_meet
        exact ⟨by rw [hPF]; rfl, Below.refl _ _⟩
      rcases (show kd = 0 ∨ kd = 1 ∨ kd = 2 ∨ kd = 3 ∨ kd = 4 ∨ kd = 5 by omega) with rfl | rfl | rfl | rfl | rfl | rfl
      · clear hk1 hk3
        cases bb with
        | true =>
          have hPF : P = false := by
            rw [HP.out]
            refine decide_eq_false ?_
            rintro ⟨⟨a1, a2⟩, a3, a4, a5, a6, a7⟩
            rcases a3 with a3 | a3
            · exact absurd a3 (by decide)
            · cases a3
          clear HP
          go_wp2
          go_meet
          exact ⟨by rw [hPF]; rfl, Below.refl _ _⟩
        | false =>
          by_cases hn0 : nn = 0
          case neg =>
            have hn1 : (nn != 0) = true := by simpa using hn0
            have hn2 : (nn == 0) = false := by simpa using hn0
            have hPF : P = false := by
              rw [HP.out]
              refine decide_eq_false ?_
              rintro ⟨⟨a1, a2⟩, a3, a4, a5, a6, a7⟩
              omega
            clear HP
            go_wp2
            go_meet
            exact ⟨by rw [hPF]; rfl, Below.refl _ _⟩
          case pos =>
            subst hn0
            by_cases hs0 : ss.size = 0
            case neg =>
              have hs4 : ss.toList ≠ [] := fun e => hs0 (by rw [ByteArray.toList_eq] at e; have := congrArg List.length e; simpa using this)
              have hs5 : (ss.toList == []) = false := beq_eq_false_iff_ne.2 hs4
              have hs6 : ss.toList.isEmpty = false := List.isEmpty_eq_false_iff.2 hs4
              have hPF : P = false := by
                rw [HP.out]
                refine decide_eq_false ?_
                rintro ⟨⟨a1, a2⟩, a3, a4, a5, a6, a7⟩
                omega
              clear HP
              go_wp2
              go_meet
              exact ⟨by rw [hPF]; rfl, Below.refl _ _⟩
            case pos =>
              obtain rfl := size0 hs0
              clear hs0
              by_cases hi0 : items.length = 0
              case neg =>
                have hi1 : 0 < items.length := by omega
                have hi2 : (0 : Int) < (items.length : Int) := by omega
                have hi3 : ((items.length : Int) == 0) = false := beq_eq_false_iff_ne.2 (by omega)
                have hPF : P = false := by
                  rw [HP.out]
                  refine decide_eq_false ?_
                  rintro ⟨⟨a1, a2⟩, a3, a4, a5, a6, a7⟩
                  omega
                clear HP
                go_wp2
                go_meet
                exact ⟨by rw [hPF]; rfl, Below.refl _ _⟩
              case pos =>
                obtain rfl := List.length_eq_zero_iff.1 hi0
                clear hi0
                by_cases hm0 : mems.length = 0
                case neg =>
                  have hm1 : 0 < mems.length := by omega
                  have hm2 : (0 : Int) < (mems.length : Int) := by omega
                  have hm3 : ((mems.length : Int) == 0) = false := beq_eq_false_iff_ne.2 (by omega)
                  have hPF : P = false := by
                    rw [HP.out]
                    refine decide_eq_false ?_
                    rintro ⟨⟨a1, a2⟩, a3, a4, a5, a6, a7⟩
                    omega
                  clear HP
                  go_wp2
                  go_meet
                  exact ⟨by rw [hPF]; rfl, Below.refl _ _⟩
                case pos =>
                  obtain rfl := List.length_eq_zero_iff.1 hm0
                  clear hm0
                  have hPT : P = true := by
                    rw [HP.out]
                    refine decide_eq_true ⟨⟨by decide, by decide⟩, .inr rfl, .inr rfl, .inr rfl, .inr rfl, .inr rfl⟩
                  clear HP
                  go_wp2_with fail
                  refine (cV _).mono ?_
                  rintro e w3 ⟨rfl, b3⟩
                  go_wp2
                  go_meet
                  exact ⟨by rw [hPT]; simp, b3⟩
      · clear hk1 hk3
        by_cases hn0 : nn = 0
        case neg =>
          have hn1 : (nn != 0) = true := by simpa using hn0
          have hn2 : (nn == 0) = false := by simpa using hn0
          have hPF : P = false := by
            rw [HP.out]
            refine decide_eq_false ?_
            rintro ⟨⟨a1, a2⟩, a3, a4, a5, a6, a7⟩
            omega
          clear HP
          go_wp2
          go_meet
          exact ⟨by rw [hPF]; rfl, Below.refl _ _⟩
        case pos =>
          subst hn0
          by_cases hs0 : ss.size = 0
          case neg =>
            have hs4 : ss.toList ≠ [] := fun e => hs0 (by rw [ByteArray.toList_eq] at e; have := congrArg List.length e; simpa using this)
            have hs5 : (ss.toList == []) = false := beq_eq_false_iff_ne.2 hs4
            have hs6 : ss.toList.isEmpty = false := List.isEmpty_eq_false_iff.2 hs4
            have hPF : P = false := by
              rw [HP.out]
              refine decide_eq_false ?_
              rintro ⟨⟨a1, a2⟩, a3, a4, a5, a6, a7⟩
              omega
            clear HP
            go_wp2
            go_meet
            exact ⟨by rw [hPF]; rfl, Below.refl _ _⟩
          case pos =>
            obtain rfl := size0 hs0
            clear hs0
            by_cases hi0 : items.length = 0
            case neg =>
              have hi1 : 0 < items.length := by omega
              have hi2 : (0 : Int) < (items.length : Int) := by omega
              have hi3 : ((items.length : Int) == 0) = false := beq_eq_false_iff_ne.2 (by omega)
              have hPF : P = false := by
                rw [HP.out]
                refine decide_eq_false ?_
                rintro ⟨⟨a1, a2⟩, a3, a4, a5, a6, a7⟩
                omega
              clear HP
              go_wp2
              go_meet
              exact ⟨by rw [hPF]; rfl, Below.refl _ _⟩
            case pos =>
              obtain rfl := List.length_eq_zero_iff.1 hi0
              clear hi0
              by_cases hm0 : mems.length = 0
              case neg =>
                have hm1 : 0 < mems.length := by omega
                have hm2 : (0 : Int) < (mems.length : Int) := by omega
                have hm3 : ((mems.length : Int) == 0) = false := beq_eq_false_iff_ne.2 (by omega)
                have hPF : P = false := by
                  rw [HP.out]
                  refine decide_eq_false ?_
                  rintro ⟨⟨a1, a2⟩, a3, a4, a5, a6, a7⟩
                  omega
                clear HP
                go_wp2
                go_meet
                exact ⟨by rw [hPF]; rfl, Below.refl _ _⟩
              case pos =>
                obtain rfl := List.length_eq_zero_iff.1 hm0
                clear hm0
                have hPT : P = true := by
                  rw [HP.out]
                  refine decide_eq_true ⟨⟨by decide, by decide⟩, .inl rfl, .inr rfl, .inr rfl, .inr rfl, .inr rfl⟩
                clear HP
                go_wp2_with fail
                refine (cV _).mono ?_
                rintro e w3 ⟨rfl, b3⟩
                go_wp2
                go_meet
                exact ⟨by rw [hPT]; simp, b3⟩
      · clear hk1 hk3
        cases bb with
        | true =>
          have hPF : P = false := by
            rw [HP.out]
            refine decide_eq_false ?_
            rintro ⟨⟨a1, a2⟩, a3, a4, a5, a6, a7⟩
            rcases a3 with a3 | a3
            · exact absurd a3 (by decide)
            · cases a3
          clear HP
          go_wp2
          go_meet
          exact ⟨by rw [hPF]; rfl, Below.refl _ _⟩
        | false =>
          by_cases hs0 : ss.size = 0
          case neg =>
            have hs4 : ss.toList ≠ [] := fun e => hs0 (by rw [ByteArray.toList_eq] at e; have := congrArg List.length e; simpa using this)
            have hs5 : (ss.toList == []) = false := beq_eq_false_iff_ne.2 hs4
            have hs6 : ss.toList.isEmpty = false := List.isEmpty_eq_false_iff.2 hs4
            have hPF : P = false := by
              rw [HP.out]
              refine decide_eq_false ?_
              rintro ⟨⟨a1, a2⟩, a3, a4, a5, a6, a7⟩
              omega
            clear HP
            go_wp2
            go_meet
            exact ⟨by rw [hPF]; rfl, Below.refl _ _⟩
          case pos =>
            obtain rfl := size0 hs0
            clear hs0
            by_cases hi0 : items.length = 0
            case neg =>
              have hi1 : 0 < items.length := by omega
              have hi2 : (0 : Int) < (items.length : Int) := by omega
              have hi3 : ((items.length : Int) == 0) = false := beq_eq_false_iff_ne.2 (by omega)
              have hPF : P = false := by
                rw [HP.out]
                refine decide_eq_false ?_
                rintro ⟨⟨a1, a2⟩, a3, a4, a5, a6, a7⟩
                omega
              clear HP
              go_wp2
              go_meet
              exact ⟨by rw [hPF]; rfl, Below.refl _ _⟩
            case pos =>
              obtain rfl := List.length_eq_zero_iff.1 hi0
              clear hi0
              by_cases hm0 : mems.length = 0
              case neg =>
                have hm1 : 0 < mems.length := by omega
                have hm2 : (0 : Int) < (mems.length : Int) := by omega
                have hm3 : ((mems.length : Int) == 0) = false := beq_eq_false_iff_ne.2 (by omega)
                have hPF : P = false := by
                  rw [HP.out]
                  refine decide_eq_false ?_
                  rintro ⟨⟨a1, a2⟩, a3, a4, a5, a6, a7⟩
                  omega
                clear HP
                go_wp2
                go_meet
                exact ⟨by rw [hPF]; rfl, Below.refl _ _⟩
              case pos =>
                obtain rfl := List.length_eq_zero_iff.1 hm0
                clear hm0
                have hPT : P = true := by
                  rw [HP.out]
                  refine decide_eq_true ⟨⟨by decide, by decide⟩, .inr rfl, .inl rfl, .inr rfl, .inr rfl, .inr rfl⟩
                clear HP
                go_wp2_with fail
                refine (cV _).mono ?_
                rintro e w3 ⟨rfl, b3⟩
                go_wp2
                go_meet
                exact ⟨by rw [hPT]; simp, b3⟩
      · clear hk1 hk3
        cases bb with
        | true =>
          have hPF : P = false := by
            rw [HP.out]
            refine decide_eq_false ?_
            rintro ⟨⟨a1, a2⟩, a3, a4, a5, a6, a7⟩
            rcases a3 with a3 | a3
            · exact absurd a3 (by decide)
            · cases a3
          clear HP
          go_wp2
          go_meet
          exact ⟨by rw [hPF]; rfl, Below.refl _ _⟩
        | false =>
          by_cases hn0 : nn = 0
          case neg =>
            have hn1 : (nn != 0) = true := by simpa using hn0
            have hn2 : (nn == 0) = false := by simpa using hn0
            have hPF : P = false := by
              rw [HP.out]
              refine decide_eq_false ?_
              rintro ⟨⟨a1, a2⟩, a3, a4, a5, a6, a7⟩
              omega
            clear HP
            go_wp2
            go_meet
            exact ⟨by rw [hPF]; rfl, Below.refl _ _⟩
          case pos =>
            subst hn0
            by_cases hi0 : items.length = 0
            case neg =>
              have hi1 : 0 < items.length := by omega
              have hi2 : (0 : Int) < (items.length : Int) := by omega
              have hi3 : ((items.length : Int) == 0) = false := beq_eq_false_iff_ne.2 (by omega)
              have hPF : P = false := by
                rw [HP.out]
                refine decide_eq_false ?_
                rintro ⟨⟨a1, a2⟩, a3, a4, a5, a6, a7⟩
                omega
              clear HP
              go_wp2
              go_meet
              exact ⟨by rw [hPF]; rfl, Below.refl _ _⟩
            case pos =>
              obtain rfl := List.length_eq_zero_iff.1 hi0
              clear hi0
              by_cases hm0 : mems.length = 0
              case neg =>
                have hm1 : 0 < mems.length := by omega
                have hm2 : (0 : Int) < (mems.length : Int) := by omega
                have hm3 : ((mems.length : Int) == 0) = false := beq_eq_false_iff_ne.2 (by omega)
                have hPF : P = false := by
                  rw [HP.out]
                  refine decide_eq_false ?_
                  rintro ⟨⟨a1, a2⟩, a3, a4, a5, a6, a7⟩
                  omega
                clear HP
                go_wp2
                go_meet
                exact ⟨by rw [hPF]; rfl, Below.refl _ _⟩
              case pos =>
                obtain rfl := List.length_eq_zero_iff.1 hm0
                clear hm0
                have hPT : P = true := by
                  rw [HP.out]
                  refine decide_eq_true ⟨⟨by decide, by decide⟩, .inr rfl, .inr rfl, .inl rfl, .inr rfl, .inr rfl⟩
                clear HP
                go_wp2_with fail
                refine (cV _).mono ?_
                rintro e w3 ⟨rfl, b3⟩
                go_wp2
                go_meet
                exact ⟨by rw [hPT]; simp, b3⟩
      · clear hk1 hk3
        cases bb with
        | true =>
          have hPF : P = false := by
            rw [HP.out]
            refine decide_eq_false ?_
            rintro ⟨⟨a1, a2⟩, a3, a4, a5, a6, a7⟩
            rcases a3 with a3 | a3
            · exact absurd a3 (by decide)
            · cases a3
          clear HP
          go_wp2
          go_meet
          exact ⟨by rw [hPF]; rfl, Below.refl _ _⟩
        | false =>
          by_cases hn0 : nn = 0
          case neg =>
            have hn1 : (nn != 0) = true := by simpa using hn0
            have hn2 : (nn == 0) = false := by simpa using hn0
            have hPF : P = false := by
              rw [HP.out]
              refine decide_eq_false ?_
              rintro ⟨⟨a1, a2⟩, a3, a4, a5, a6, a7⟩
              omega
            clear HP
            go_wp2
            go_meet
            exact ⟨by rw [hPF]; rfl, Below.refl _ _⟩
          case pos =>
            subst hn0
            by_cases hs0 : ss.size = 0
            case neg =>
              have hs4 : ss.toList ≠ [] := fun e => hs0 (by rw [ByteArray.toList_eq] at e; have := congrArg List.length e; simpa using this)
              have hs5 : (ss.toList == []) = false := beq_eq_false_iff_ne.2 hs4
              have hs6 : ss.toList.isEmpty = false := List.isEmpty_eq_false_iff.2 hs4
              have hPF : P = false := by
                rw [HP.out]
                refine decide_eq_false ?_
                rintro ⟨⟨a1, a2⟩, a3, a4, a5, a6, a7⟩
                omega
              clear HP
              go_wp2
              go_meet
              exact ⟨by rw [hPF]; rfl, Below.refl _ _⟩
            case pos =>
              obtain rfl := size0 hs0
              clear hs0
              by_cases hm0 : mems.length = 0
              case neg =>
                have hm1 : 0 < mems.length := by omega
                have hm2 : (0 : Int) < (mems.length : Int) := by omega
                have hm3 : ((mems.length : Int) == 0) = false := beq_eq_false_iff_ne.2 (by omega)
                have hPF : P = false := by
                  rw [HP.out]
                  refine decide_eq_false ?_
                  rintro ⟨⟨a1, a2⟩, a3, a4, a5, a6, a7⟩
                  omega
                clear HP
                go_wp2
                go_meet
                exact ⟨by rw [hPF]; rfl, Below.refl _ _⟩
              case pos =>
                obtain rfl := List.length_eq_zero_iff.1 hm0
                clear hm0
                have hPT : P = true := by
                  rw [HP.out]
                  refine decide_eq_true ⟨⟨by decide, by decide⟩, .inr rfl, .inr rfl, .inr rfl, .inl rfl, .inr rfl⟩
                clear HP
                go_wp2_with fail
                refine (cV _).mono ?_
                rintro e w3 ⟨rfl, b3⟩
                go_wp2
                go_meet
                exact ⟨by rw [hPT]; simp, b3⟩
      · clear hk1 hk3
        cases bb with
        | true =>
          have hPF : P = false := by
            rw [HP.out]
            refine decide_eq_false ?_
            rintro ⟨⟨a1, a2⟩, a3, a4, a5, a6, a7⟩
            rcases a3 with a3 | a3
            · exact absurd a3 (by decide)
            · cases a3
          clear HP
          go_wp2
          go_meet
          exact ⟨by rw [hPF]; rfl, Below.refl _ _⟩
        | false =>
          by_cases hn0 : nn = 0
          case neg =>
            have hn1 : (nn != 0) = true := by simpa using hn0
            have hn2 : (nn == 0) = false := by simpa using hn0
            have hPF : P = false := by
              rw [HP.out]
              refine decide_eq_false ?_
              rintro ⟨⟨a1, a2⟩, a3, a4, a5, a6, a7⟩
              omega
            clear HP
            go_wp2
            go_meet
            exact ⟨by rw [hPF]; rfl, Below.refl _ _⟩
          case pos =>
            subst hn0
            by_cases hs0 : ss.size = 0
            case neg =>
              have hs4 : ss.toList ≠ [] := fun e => hs0 (by rw [ByteArray.toList_eq] at e; have := congrArg List.length e; simpa using this)
              have hs5 : (ss.toList == []) = false := beq_eq_false_iff_ne.2 hs4
              have hs6 : ss.toList.isEmpty = false := List.isEmpty_eq_false_iff.2 hs4
              have hPF : P = false := by
                rw [HP.out]
                refine decide_eq_false ?_
                rintro ⟨⟨a1, a2⟩, a3, a4, a5, a6, a7⟩
                omega
              clear HP
              go_wp2
              go_meet
              exact ⟨by rw [hPF]; rfl, Below.refl _ _⟩
            case pos =>
              obtain rfl := size0 hs0
              clear hs0
              by_cases hi0 : items.length = 0
              case neg =>
                have hi1 : 0 < items.length := by omega
                have hi2 : (0 : Int) < (items.length : Int) := by omega
                have hi3 : ((items.length : Int) == 0) = false := beq_eq_false_iff_ne.2 (by omega)
                have hPF : P = false := by
                  rw [HP.out]
                  refine decide_eq_false ?_
                  rintro ⟨⟨a1, a2⟩, a3, a4, a5, a6, a7⟩
                  omega
                clear HP
                go_wp2
                go_meet
                exact ⟨by rw [hPF]; rfl, Below.refl _ _⟩
              case pos =>
                obtain rfl := List.length_eq_zero_iff.1 hi0
                clear hi0
                have hPT : P = true := by
                  rw [HP.out]
                  refine decide_eq_true ⟨⟨by decide, by decide⟩, .inr rfl, .inr rfl, .inr rfl, .inr rfl, .inl rfl⟩
                clear HP
                go_wp2_with fail
                refine (cV _).mono ?_
                rintro e w3 ⟨rfl, b3⟩
                go_wp2
                go_meet
                exact ⟨by rw [hPT]; simp, b3⟩

    case rest =>
    obtain ⟨rfl, hbc⟩ := hcut
    obtain ⟨QV, hPV⟩ : ∃ QV, (!(P && vaL ss.data.toList)) = QV := ⟨_, rfl⟩
    have hO : OK = (!QV && (okVs items && okMs [] mems)) := by rw [HO.out, ← Bool.and_assoc, ← hPV, Bool.not_not]
    rw [hPV]
    have hb1 := HB0.out.trans (hbc.mono HB0.out.size)
    have hlt0 := HBJ.out.lt
    have hltc := hbc.size
    obtain ⟨⟨g0, g1, g2, g3, g4, g5, g6⟩, -⟩ := (HBJ.out.more hbc).seven
    have HB1 := Lib.hid hb1
    have HOO := Lib.hid hO
    clear hO hPV hb1 hbc f0 f1 f2 f3 f4 f5 HP HO cV g0 g1 g2 g3 g6 HBJ HB0
    rcases QV with _ | _
    case true =>
      have HX := Lib.hid (show OK = false from HOO.out)
      clear g4 g5 HOO
      go_wp2
      go_ret
      exact ⟨jretBo HX.out.symm, HB1.out⟩
    have HX := Lib.hid (show OK = (okVs items && okMs [] mems) from HOO.out)
    have hlw : w.heap.size < wc.heap.size := by omega
    clear HOO hlt0 hltc
    go_wp2
    go_loopw [4] (fun q wr => ∃ i : Nat, i ≤ items.length ∧ q = .int .i64 (i : Int) ∧ okVs items = okVs (items.drop i) ∧ Below wc.heap.size wc wr) (fun q _ => items.length - (RowKit.intOf q).toNat)
    case atStart => exact ⟨0, Nat.zero_le _, rfl, rfl, Below.refl _ _⟩
    case round =>
      obtain ⟨i, hi, rfl, hrel, hbel⟩ := hrel
      have hbo : Below w.heap.size w wr := HB1.out.trans (hbel.mono HB1.out.size)
      have e4 := (hbel.cell (p := ⟨w.heap.size, 4, none⟩) hlw).trans g4
      by_cases hlt : i < items.length
      · have hiz : (i : Int) < (items.length : Int) := by omega
        obtain ⟨a, v0, v1, v2, v3, v4, v5, v6, rfl, ⟨a0, a1, a2, a3, a4, a5, a6⟩, hk⟩ := ItemsAt.get items 0 (HI.out.below hbo) i hlt
        rw [Nat.zero_add] at a0 a1 a2 a3 a4 a5 a6
        obtain ⟨k, hkk⟩ : ∃ k, items[i] = k := ⟨_, rfl⟩
        have hmem : k ∈ items := by rw [← hkk]; exact List.getElem_mem _
        rw [okVs_drop items i hlt, hkk] at hrel
        rw [hkk] at hk
        obtain ⟨hk1, hk2⟩ := HIM.out k hmem
        have c1 := IH k _ wr hk1 hk2 hk
        obtain ⟨cc, hcc⟩ : ∃ c, a.add (i * 7) = c := ⟨_, rfl⟩
        rw [hcc] at a0 a1 a2 a3 a4 a5 a6
        simp only [Addr.add, Nat.reduceEqDiff, ↓reduceIte] at a1 a2 a3 a4 a5 a6
        have HBL := Lib.hid hbel
        have HBO := Lib.hid hbo
        clear hk hmem hkk hbo hbel g4 g5
        rcases hko : k.okB with _ | _
        · rw [hko] at hrel c1
          clear hko
          have HY := Lib.hid (show OK = false by rw [HX.out, hrel]; rfl)
          clear hrel HX
          go_wp2_with fail
          refine c1.mono ?_
          rintro e w1 ⟨rfl, b1⟩
          go_wp2
          go_ret
          exact ⟨jretBo HY.out.symm, HBO.out.trans (b1.mono HBO.out.size)⟩
        · rw [hko] at hrel c1
          clear hko
          have HR := Lib.hid (show okVs items = okVs (items.drop (i + 1)) by rw [hrel, Bool.true_and])
          clear hrel
          go_wp2_with fail
          refine c1.mono ?_
          rintro e w1 ⟨rfl, b1⟩
          go_wp2
          go_roundw
          case rel => exact ⟨i + 1, by omega, by go_num, HR.out, HBL.out.trans (b1.mono HBL.out.size)⟩
          case measure => simp [RowKit.intOf]; omega
      · obtain rfl : i = items.length := by omega
        have hiz : ¬ (items.length : Int) < (items.length : Int) := by omega
        rw [List.drop_eq_nil_of_le (Nat.le_refl _), okVs] at hrel
        have HX2 := Lib.hid (show OK = okMs [] mems by rw [HX.out, hrel, Bool.true_and])
        obtain ⟨wo, hwo⟩ : ∃ wo, wo = wr := ⟨_, rfl⟩
        subst hwo
        have e5 := (hbel.cell (p := ⟨w.heap.size, 5, none⟩) hlw).trans g5
        have hlwo : w.heap.size < wo.heap.size := by have := hbel.size; omega
        have HBO := Lib.hid hbo
        clear hrel HX hbel hbo g4 g5 HB1 hlw hlt HIM
        go_wp2
        go_loopw [5] (fun q wr => ∃ j : Nat, j ≤ mems.length ∧ q = .int .i64 (j : Int) ∧ okMs [] mems = okMs ((mems.take j).map MemD.key) (mems.drop j) ∧ Below wo.heap.size wo wr) (fun q _ => mems.length - (RowKit.intOf q).toNat)
        case atStart => exact ⟨0, Nat.zero_le _, rfl, rfl, Below.refl _ _⟩
        case round =>
          obtain ⟨j, hj, rfl, hrel, hbel⟩ := hrel
          have hbo : Below w.heap.size w wr := HBO.out.trans (hbel.mono HBO.out.size)
          have h5 := (hbel.cell (p := ⟨w.heap.size, 5, none⟩) hlwo).trans e5
          have HBL := Lib.hid hbel
          by_cases hlt : j < mems.length
          · have hjz : (j : Int) < (mems.length : Int) := by omega
            have hj0 : (0 : Int) ≤ (j : Int) := by omega
            obtain ⟨a, v0, v1, v2, v3, v4, v5, v6, rfl, ⟨a0, a1, a2, a3, a4, a5, a6, a7, -⟩, hk⟩ := MemsAt.get mems 0 (HM.out.below hbo) j hlt
            rw [Nat.zero_add] at a0 a1 a2 a3 a4 a5 a6 a7
            rw [okMs_drop mems j hlt] at hrel
            obtain ⟨m, hmm⟩ : ∃ m, mems[j] = m := ⟨_, rfl⟩
            have hmem : m ∈ mems := by rw [← hmm]; exact List.getElem_mem _
            rw [hmm] at hk hrel a0
            obtain ⟨hm1, hm2, hm3⟩ := HMM.out m hmem
            have c1 := IH m.v _ wr hm1 hm2 hk
            have c2 : ∀ wx, _ := fun wx => jref_Valid m.key wx hm3
            obtain ⟨cc, hcc⟩ : ∃ c, a.add (j * 9) = c := ⟨_, rfl⟩
            rw [hcc] at a0 a1 a2 a3 a4 a5 a6 a7
            simp only [Addr.add, Nat.reduceEqDiff, ↓reduceIte] at a1 a2 a3 a4 a5 a6 a7
            clear hk hmem hmm hbel hm1 hm2 hm3
            rcases hmo : m.v.okB with _ | _
            · rw [hmo] at hrel c1
              clear hmo
              have HY := Lib.hid (show OK = false by rw [HX2.out, hrel]; simp)
              clear hrel HX2 c2
              go_wp2_with fail
              refine c1.mono ?_
              rintro e w1 ⟨rfl, b1⟩
              go_wp2
              go_ret
              exact ⟨jretBo HY.out.symm, hbo.trans (b1.mono hbo.size)⟩
            rw [hmo] at hrel c1
            clear hmo
            rcases hva : vaL m.key.data.toList with _ | _
            · rw [hva] at hrel
              simp only [hva] at c2
              clear hva
              have HY := Lib.hid (show OK = false by rw [HX2.out, hrel]; simp)
              clear hrel HX2
              go_wp2_with fail
              refine c1.mono ?_
              rintro e w1 ⟨rfl, b1⟩
              have y0 := (b1.cell (vblock_lt a0)).trans a0
              have y5 := (b1.cell (vblock_lt h5)).trans h5
              have hb1 := hbo.trans (b1.mono hbo.size)
              clear b1
              go_wp2_with fail
              refine (c2 _).mono ?_
              rintro e w2 ⟨rfl, b2⟩
              go_wp2
              go_ret
              exact ⟨jretBo HY.out.symm, hb1.trans (b2.mono hb1.size)⟩
            rw [hva] at hrel
            simp only [hva] at c2
            clear hva
            have HR := Lib.hid (show okMs [] mems = (!(((mems.take j).map MemD.key).any fun x => decide (x = m.key)) && okMs ((mems.take (j + 1)).map MemD.key) (mems.drop (j + 1))) by rw [hrel]; simp)
            have HBO2 := Lib.hid hbo
            clear hrel hbo
            go_wp2_with fail
            refine c1.mono ?_
            rintro e w1 ⟨rfl, b1⟩
            have y0 := (b1.cell (vblock_lt a0)).trans a0
            have y5 := (b1.cell (vblock_lt h5)).trans h5
            have HC1 := Lib.hid b1
            clear b1
            go_wp2_with fail
            refine (c2 _).mono ?_
            rintro e w2 ⟨rfl, b2⟩
            have z0 := (b2.cell (vblock_lt y0)).trans y0
            have z5 := (b2.cell (vblock_lt y5)).trans y5
            have HC2 := Lib.hid (HC1.out.trans (b2.mono HC1.out.size))
            have hbw2 := HBL.out.trans (HC2.out.mono HBL.out.size)
            have HBW2 := Lib.hid hbw2
            have HBB := Lib.hid (HBO2.out.trans (HC2.out.mono HBO2.out.size))
            have hl2 : w.heap.size < w2.heap.size := by have := hbw2.size; omega
            clear b2 y0 y5 a0 a1 a2 a3 a4 a5 a6 a7 h5 HC1 c1 c2 hbw2
            obtain ⟨wp, hwp⟩ : ∃ wp, wp = w2 := ⟨_, rfl⟩
            subst hwp
            go_wp2
            go_loopw [6] (fun q wr => ∃ k : Nat, k ≤ j ∧ q = .int .i64 (k : Int) ∧ ((mems.take j).any fun x => decide (x.key = m.key)) = (((mems.take j).drop k).any fun x => decide (x.key = m.key)) ∧ Below wp.heap.size wp wr) (fun q _ => j - (RowKit.intOf q).toNat)
            case atStart => exact ⟨0, Nat.zero_le _, rfl, rfl, Below.refl _ _⟩
            case round =>
              obtain ⟨k, hkj, rfl, hrl, hbk⟩ := hrel
              have HBK := Lib.hid hbk
              by_cases hkl : k < j
              · have hkz : (k : Int) < (j : Int) := by omega
                have hkm : (k : Int) < (mems.length : Int) := by omega
                have hk0 : (0 : Int) ≤ (k : Int) := by omega
                have r0 := (hbk.cell (vblock_lt z0)).trans z0
                have r5 := (hbk.cell (vblock_lt z5)).trans z5
                have hbw := HBB.out.trans (hbk.mono HBB.out.size)
                obtain ⟨a', u0, u1, u2, u3, u4, u5, u6, ha', ⟨s0, -⟩, -⟩ := MemsAt.get mems 0 (HM.out.below hbw) k (by omega)
                injection ha' with ha'
                subst ha'
                rw [Nat.zero_add] at s0
                rw [any_keys mems j k m.key hkl (by omega)] at hrl
                obtain ⟨ky, hky⟩ : ∃ y, (mems[k]'(by omega)).key = y := ⟨_, rfl⟩
                rw [hky] at s0 hrl
                clear hky
                obtain ⟨cd, hcd⟩ : ∃ c, a.add (k * 9) = c := ⟨_, rfl⟩
                rw [hcd] at s0
                clear hbk hbw
                by_cases hkk : ky = m.key
                · have HY := Lib.hid (show OK = false by
                    rw [HX2.out, HR.out, any_map_key, hrl, hkk]
                    simp)
                  subst hkk
                  clear hrl HR HX2
                  go_wp2
                  go_quiet (fail)
                  go_wp2
                  go_ret
                  exact ⟨jretBo HY.out.symm, below_hp (HBB.out.trans (HBK.out.mono HBB.out.size)) rfl rfl rfl rfl⟩
                · have HRL := Lib.hid (show ((mems.take j).any fun x => decide (x.key = m.key)) = (((mems.take j).drop (k + 1)).any fun x => decide (x.key = m.key)) by rw [hrl, decide_eq_false hkk, Bool.false_or])
                  have q1 := jstr_ne hkk
                  have q2 := jstr_ne2 hkk
                  have q3 := jstr_ne3 hkk
                  clear hrl hkk
                  go_wp2
                  go_quiet (fail)
                  go_wp2
                  go_roundw
                  case rel => exact ⟨k + 1, by omega, by go_num, HRL.out, below_hp HBK.out rfl rfl rfl rfl⟩
                  case measure => simp [RowKit.intOf]; omega
              · obtain rfl : k = j := by omega
                have hkz : ¬ (k : Int) < (k : Int) := by omega
                have HRL := Lib.hid (show okMs [] mems = okMs ((mems.take (k + 1)).map MemD.key) (mems.drop (k + 1)) by
                  rw [HR.out, any_map_key, hrl, List.drop_eq_nil_of_le (by rw [List.length_take]; omega)]
                  simp)
                clear hrl hbk HR
                go_wp2
                go_roundw
                case rel => exact ⟨k + 1, by omega, by go_num, HRL.out, HBW2.out.trans (HBK.out.mono HBW2.out.size)⟩
                case measure => simp [RowKit.intOf]; omega
          · obtain rfl : j = mems.length := by omega
            have hjz : ¬ (mems.length : Int) < (mems.length : Int) := by omega
            rw [List.drop_eq_nil_of_le (Nat.le_refl _), okMs] at hrel
            have HY := Lib.hid (show OK = true by rw [HX2.out, hrel])
            clear hrel HX2
            go_wp2
            go_ret
            exact ⟨jretBo HY.out.symm, hbo⟩
theorem jref_okV : ∀ f : Nat, OkVC f
  | 0 => fun n v w hf _ _ => absurd hf (by have := bulk_pos n; omega)
  | f + 1 => okV_step f (jref_okV f)
end Go.Proofs.YtdooadalkbghgaaDoor
end
section
namespace Go.Proofs.YtdooadalkbghgaaDoor
open Go.RowKit
def validB (n : ValD) : Bool := n.okB && decide (n.depth ≤ 100)
def chkZ (n : ValD) : Int := if validB n = true then 0 else 22
theorem validB_vd (n : ValD) : n.vdB 1 = validB n := by
  rw [vvd_split]
  unfold validB
  congr 1
  rw [decide_eq_decide]
  omega
set_option maxRecDepth 100000 in
set_option maxHeartbeats 8000000 in
theorem jref_CheckW (n : ValD) (v : Value) (w : World) (hc : n.bulk ≤ 1000000) (hn : ValIs w n v) : Calls Tryd.prog 20 #[v] w fun e w' => e = .returned (.int .i64 (chkZ n)) ∧ Below w.heap.size w w' := by
  have hdc := vdepth_cnt n
  have hcb := cnt_bulk n
  obtain ⟨p, c, q, d, hv⟩ : ∃ p c q d, v = .agg #[.int .i64 n.kind, .bool n.b, .int .i64 n.n, .string n.s, .slice p n.items.length c, .slice q n.mems.length d, .int .i64 n.at'] := by
    obtain ⟨p, c, q, d, hv, -, -⟩ := (val_is w n v).1 hn
    exact ⟨p, c, q, d, hv⟩
  subst hv
  obtain ⟨W0, hW0⟩ : ∃ W0, W0 = w.alloc (.cells #[.int .i64 n.kind, .bool n.b, .int .i64 n.n, .string n.s, .slice p n.items.length c, .slice q n.mems.length d, .int .i64 n.at'] 25) := ⟨_, rfl⟩
  have B0 : Bj W0 w.heap.size #[.int .i64 n.kind, .bool n.b, .int .i64 n.n, .string n.s, .slice p n.items.length c, .slice q n.mems.length d, .int .i64 n.at'] 25 := by rw [hW0]; exact Bj.new w _ _
  have hb0 : Below w.heap.size w W0 := by rw [hW0]; exact (Below.refl _ _).alloc (Nat.le_refl _) _
  have c1 := jref_okV n.bulk n _ W0 (Nat.le_refl _) hc (ValIs.below hb0 _ _ hn)
  have c2 := fun wx x h => jref_Depth n.cnt n x wx (Nat.le_refl _) (by omega) h
  have HN := Lib.hid (ValIs.below hb0 _ _ hn)
  have HZ := Lib.hid (show chkZ n = if (n.okB && decide (n.depth ≤ 100)) = true then 0 else 22 from rfl)
  obtain ⟨⟨f0, f1, f2, f3, f4, f5, f6⟩, -⟩ := B0.seven
  have HB0 := Lib.hid hb0
  have HBJ := Lib.hid B0
  have hdz : (n.depth : Int) ≤ 1000000 := by omega
  clear hn hb0 B0 hcb hdc hc
  generalize chkZ n = Z at *
  generalize n.depth = dp at *
  generalize n.okB = OK at *
  go_enter Tryd.func20, Tryd.ntmps20
  go_upto_region 1 with fail
  simp only [← hW0]
  clear hW0
  go_wp2_with fail
  refine c1.mono ?_
  rintro e w1 ⟨rfl, b1⟩
  obtain ⟨⟨g0, g1, g2, g3, g4, g5, g6⟩, -⟩ := (HBJ.out.more b1).seven
  have HB1 := Lib.hid (HB0.out.trans (b1.mono HB0.out.size))
  have cD := c2 _ _ (ValIs.below b1 _ _ HN.out)
  clear b1 c1 c2 f0 f1 f2 f3 f4 f5 f6
  rcases OK with _ | _
  · have HX := Lib.hid (show Z = 22 from HZ.out)
    clear cD
    go_wp2
    go_ret
    exact ⟨jtrI HX.out.symm, HB1.out⟩
  · by_cases hd : 100 < dp
    · have hd2 : (100 : Int) < (dp : Int) := by omega
      have HX := Lib.hid (show Z = 22 by rw [HZ.out, decide_eq_false (by omega)]; rfl)
      clear hd
      go_wp2_with fail
      refine cD.mono ?_
      rintro e w2 ⟨rfl, b2⟩
      go_wp2
      go_ret
      exact ⟨jtrI HX.out.symm, HB1.out.trans (b2.mono HB1.out.size)⟩
    · have hd2 : ¬ (100 : Int) < (dp : Int) := by omega
      have HX := Lib.hid (show Z = 0 by rw [HZ.out, decide_eq_true (by omega)]; rfl)
      clear hd
      go_wp2_with fail
      refine cD.mono ?_
      rintro e w2 ⟨rfl, b2⟩
      go_wp2
      go_ret
      exact ⟨jtrI HX.out.symm, HB1.out.trans (b2.mono HB1.out.size)⟩
end Go.Proofs.YtdooadalkbghgaaDoor
end
