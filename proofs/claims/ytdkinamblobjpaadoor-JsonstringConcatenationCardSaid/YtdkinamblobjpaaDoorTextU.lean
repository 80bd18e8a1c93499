/- Decode of the reference of layer 1: it returns what package text's Decode returns. -/
import Derived.Test.YtdkinamblobjpaaDoorTextT
import Derived.Deep.RegionWith
import Derived.Deep.LoopGhost
import Derived.IntWalk
namespace Go.Proofs.YtdkinamblobjpaaDoor
open Go.RowKit Go.Lib

/-- None of fewer than k bytes is an encoding. -/
def Missed (s : ByteArray) (n k : Nat) : Prop := ∀ j, 1 ≤ j → j < k → n + j ≤ s.size → hitB s n j = false
theorem Missed.next {s : ByteArray} {n k : Nat} (h : Missed s n k) (hb : hitB s n k = false) : Missed s n (k + 1) := fun j h1 h2 h3 => by
  rcases Nat.lt_or_eq_of_le (Nat.le_of_lt_succ h2) with h4 | rfl
  · exact h j h1 h4 h3
  · exact hb
theorem Missed.all {s : ByteArray} {n k : Nat} (h : Missed s n k) (hn : n < s.size) (hk : 5 ≤ k ∨ s.size < n + k) : decP s n = (0, 0) :=
  dec_miss s n hn fun j h1 h2 h3 => h j h1 (by omega) h3

theorem slice_at (s : ByteArray) (n k : Nat) (h : n + k ≤ s.size) (w : World) : (Instr.slice 9 (.string s) (some (.int .i64 (n : Int))) (some (.int .i64 ((n : Int) + (k : Int)))) none).run Tryd.prog w = .ok (.string (s.extract n (n + k))) w := by
  have := run_slice_string (P := Tryd.prog) (w := w) 9 s .i64 .i64 (n : Int) ((n : Int) + (k : Int)) Tryd.underlying9 (by omega) (by omega) (by omega)
  rw [this]
  rfl

set_option maxRecDepth 100000 in
set_option maxHeartbeats 8000000 in
theorem ref_Decode (s : ByteArray) (a : Int) (w : World) (hs : s.size ≤ maxLen) :
    Calls Tryd.prog 23 #[.string s, .int .i64 a] w fun e w' => e = .returned (.tuple #[.int .i64 (decI s a).1, .int .i64 (decI s a).2]) ∧ Below w.heap.size w w' := by
  unfold maxLen at hs
  by_cases h0 : a < 0
  · rw [decI, if_pos (.inl h0)]
    go_enter Tryd.func23, Tryd.ntmps23
    go_wp2
    all_goals go_ret2
    all_goals exact ⟨rfl, Below.refl _ _⟩
  obtain ⟨n, rfl⟩ := Int.eq_ofNat_of_zero_le (by omega : 0 ≤ a)
  by_cases h1 : s.size ≤ n
  · rw [decI, if_pos (.inr (by omega))]
    go_enter Tryd.func23, Tryd.ntmps23
    go_wp2
    all_goals go_ret2
    all_goals exact ⟨rfl, Below.refl _ _⟩
  have hn : n < s.size := by omega
  have hd : decI s n = decP s n := by rw [decI, if_neg (by omega)]; simp
  rw [hd]
  clear hd h0 h1
  obtain ⟨x, hx⟩ : ∃ x, s[n]'hn = x := ⟨_, rfl⟩
  have hbz : byteZ s n = (x.toNat : Int) := by rw [byteZ_at s n hn, hx]
  have HBZ := Lib.hid hbz
  clear hbz
  have hd1 : decide ((n : Int) < 0) = false := by simp
  have hd2 : decide (s.size ≤ n) = false := by simp; omega
  go_enter Tryd.func23, Tryd.ntmps23
  go_wp2
  go_loopw [6] (fun v wr => ∃ (k : Nat) (kz : Int), kz = (k : Int) ∧ 1 ≤ k ∧ k ≤ 5 ∧ v = .int .i64 kz ∧ Missed s n k ∧ Below w.heap.size w wr) (fun v _ => 5 - (RowKit.intOf v).toNat)
  case atStart => exact ⟨1, 1, rfl, by omega, by omega, rfl, fun j h1 h2 => by omega, Below.refl _ _⟩
  case round =>
    obtain ⟨k, kz, hkz0, hk1, hk5, rfl, hmiss, hbel⟩ := hrel
    have hxl := x.toNat_lt
    have hzz := hbel.size
    by_cases hend : 5 ≤ k ∨ s.size < n + k
    · have hz := hmiss.all hn hend
      have HZ := Lib.hid hz
      clear hz hmiss
      rcases hend with h5 | h5
      · obtain rfl : k = 5 := by omega
        obtain rfl : kz = 5 := by simpa using hkz0
        clear hkz0
        go_wp2
        all_goals go_ret2
        all_goals exact ⟨by rw [HZ.out]; rfl, hbel⟩
      · subst hkz0
        have h6 : ¬ (k : Int) ≤ (s.size : Int) - (n : Int) := by omega
        go_wp2
        all_goals go_ret2
        all_goals exact ⟨by rw [HZ.out]; rfl, hbel⟩
    · rcases (by omega : k = 1 ∨ k = 2 ∨ k = 3 ∨ k = 4) with rfl | rfl | rfl | rfl
      · obtain rfl : kz = 1 := by simpa using hkz0
        have hkz : (1 : Int) ≤ (s.size : Int) - (n : Int) := by omega
        have hks : n + 1 ≤ s.size := by omega
        have hkw : (n : Int) + 1 ≤ (s.size : Int) := by omega
        clear hend hkz0
        have hA0 : accZ s n (1 : Int) 0 = (x.toNat : Int) := by rw [accZ, HBZ.out]; simp [leadZ]
        have HA0 := Lib.hid hA0
        clear hA0
        go_wp2
        go_loop [7, 8] (fun r i => ∃ j : Nat, j + 1 ≤ 1 ∧ i = .int .i64 ((j + 1 : Nat) : Int) ∧ r = .int .i64 (accZ s n (1 : Int) j)) (fun _ i => 1 - (RowKit.intOf i).toNat)
        case atStart => exact ⟨0, by omega, rfl, by rw [HA0.out]⟩
        case round =>
          obtain ⟨j, hj, rfl, rfl⟩ := hrel
          have hA := accZ_lt s n (1 : Int) j
          have hAle : accZ s n (1 : Int) j ≤ 256 := by
            have : j = 0 ∨ j = 1 ∨ j = 2 ∨ j = 3 := by omega
            rcases this with rfl | rfl | rfl | rfl <;> first | (exfalso; omega) | (rw [show (64 : Int) ^ 0 = 1 from rfl] at hA; omega) | (rw [show (64 : Int) ^ 1 = 64 from rfl] at hA; omega) | (rw [show (64 : Int) ^ 2 = 4096 from rfl] at hA; omega) | (rw [show (64 : Int) ^ 3 = 262144 from rfl] at hA; omega)
          replace hA := hA.1
          by_cases hin : j + 1 < 1
          · exfalso; omega
          · obtain rfl : j = 0 := by omega
            have hhit : hitB s n 1 = ((strOfNums (encZ (accZ s n (1 : Int) 0))).toList == (s.extract n (n + 1)).toList) := rfl
            have hgood : hitB s n 1 = true → (((decP s n).1 : Nat) : Int) = accZ s n (1 : Int) 0 ∧ (decP s n).2 = 1 := dec_hit s n 1 (by omega) (by omega) hks
            have hnx := fun e => hmiss.next (k := 1) e
            generalize accZ s n (1 : Int) 0 = A at *
            have hE := ref_Encode A
            generalize strOfNums (encZ A) = E at hhit hE
            rcases hb0 : hitB s n 1 with _ | _
            · have hm2 := hnx hb0
              rw [hb0] at hhit
              have hq : (E.toList == (s.extract n (n + 1)).toList) = false := hhit.symm
              clear hhit hb0 hnx hgood
              go_wp2
              have hw1 : IntKind.i64.wrap ((n : Int) + 1) = (n : Int) + 1 := IntWalk.i64_in _ (by omega)
              have hw2 : 0 ≤ (n : Int) + 1 := by omega
              have hw3 : ((n : Int) + 1).toNat = n + 1 := by omega
              go_region_with (go_at_call 15; refine (hE _).mono ?_; rintro e w1 ⟨rfl, hb1⟩)
              all_goals
                clear hw1 hw2 hw3
                go_wp2
                go_roundw
                case rel => exact ⟨2, 2, rfl, by omega, by omega, rfl, hm2, by first | exact hbel.trans (hb1.mono hzz) | exact (hbel.drew).trans (hb1.mono hzz) | exact (hbel.trans (hb1.mono hzz)).drew | exact ((hbel.drew).trans (hb1.mono hzz)).drew⟩
                case measure => simp [RowKit.intOf]
            · have hg := hgood hb0
              rw [hb0] at hhit
              have hq : (E.toList == (s.extract n (n + 1)).toList) = true := hhit.symm
              have HG := Lib.hid hg
              clear hhit hb0 hnx hgood hmiss hg
              go_wp2
              have hw1 : IntKind.i64.wrap ((n : Int) + 1) = (n : Int) + 1 := IntWalk.i64_in _ (by omega)
              have hw2 : 0 ≤ (n : Int) + 1 := by omega
              have hw3 : ((n : Int) + 1).toNat = n + 1 := by omega
              go_region_with (go_at_call 15; refine (hE _).mono ?_; rintro e w1 ⟨rfl, hb1⟩)
              all_goals
                clear hw1 hw2 hw3
                go_wp2
                go_ret2
                exact ⟨by rw [HG.out.1, HG.out.2]; rfl, by first | exact hbel.trans (hb1.mono hzz) | exact (hbel.drew).trans (hb1.mono hzz) | exact (hbel.trans (hb1.mono hzz)).drew | exact ((hbel.drew).trans (hb1.mono hzz)).drew⟩
      · obtain rfl : kz = 2 := by simpa using hkz0
        have hkz : (2 : Int) ≤ (s.size : Int) - (n : Int) := by omega
        have hks : n + 2 ≤ s.size := by omega
        have hkw : (n : Int) + 2 ≤ (s.size : Int) := by omega
        clear hend hkz0
        have hA0 : accZ s n (2 : Int) 0 = (x.toNat : Int) % 32 := by rw [accZ, HBZ.out]; simp [leadZ]
        have HA0 := Lib.hid hA0
        clear hA0
        go_wp2
        go_loop [7, 8] (fun r i => ∃ j : Nat, j + 1 ≤ 2 ∧ i = .int .i64 ((j + 1 : Nat) : Int) ∧ r = .int .i64 (accZ s n (2 : Int) j)) (fun _ i => 2 - (RowKit.intOf i).toNat)
        case atStart => exact ⟨0, by omega, rfl, by rw [HA0.out]⟩
        case round =>
          obtain ⟨j, hj, rfl, rfl⟩ := hrel
          have hA := accZ_lt s n (2 : Int) j
          have hAle : accZ s n (2 : Int) j ≤ 16384 := by
            have : j = 0 ∨ j = 1 ∨ j = 2 ∨ j = 3 := by omega
            rcases this with rfl | rfl | rfl | rfl <;> first | (exfalso; omega) | (rw [show (64 : Int) ^ 0 = 1 from rfl] at hA; omega) | (rw [show (64 : Int) ^ 1 = 64 from rfl] at hA; omega) | (rw [show (64 : Int) ^ 2 = 4096 from rfl] at hA; omega) | (rw [show (64 : Int) ^ 3 = 262144 from rfl] at hA; omega)
          replace hA := hA.1
          by_cases hin : j + 1 < 2
          · have hidx : n + (j + 1) < s.size := by omega
            obtain ⟨y, hy⟩ : ∃ y, s[n + (j + 1)]'hidx = y := ⟨_, rfl⟩
            have hyl := y.toNat_lt
            have hnext : accZ s n (2 : Int) (j + 1) = accZ s n (2 : Int) j * 64 + (y.toNat : Int) % 64 := by rw [accZ, byteZ_at s _ hidx, hy]
            have HN := Lib.hid hnext
            clear hnext
            generalize accZ s n (2 : Int) j = A at *
            go_wp2
            go_round
            case rel => exact ⟨j + 1, by omega, by go_num, by rw [HN.out]⟩
            case measure => simp [RowKit.intOf]; omega
          · obtain rfl : j = 1 := by omega
            have hhit : hitB s n 2 = ((strOfNums (encZ (accZ s n (2 : Int) 1))).toList == (s.extract n (n + 2)).toList) := rfl
            have hgood : hitB s n 2 = true → (((decP s n).1 : Nat) : Int) = accZ s n (2 : Int) 1 ∧ (decP s n).2 = 2 := dec_hit s n 2 (by omega) (by omega) hks
            have hnx := fun e => hmiss.next (k := 2) e
            generalize accZ s n (2 : Int) 1 = A at *
            have hE := ref_Encode A
            generalize strOfNums (encZ A) = E at hhit hE
            rcases hb0 : hitB s n 2 with _ | _
            · have hm2 := hnx hb0
              rw [hb0] at hhit
              have hq : (E.toList == (s.extract n (n + 2)).toList) = false := hhit.symm
              clear hhit hb0 hnx hgood
              go_wp2
              have hw1 : IntKind.i64.wrap ((n : Int) + 2) = (n : Int) + 2 := IntWalk.i64_in _ (by omega)
              have hw2 : 0 ≤ (n : Int) + 2 := by omega
              have hw3 : ((n : Int) + 2).toNat = n + 2 := by omega
              go_region_with (go_at_call 15; refine (hE _).mono ?_; rintro e w1 ⟨rfl, hb1⟩)
              all_goals
                clear hw1 hw2 hw3
                go_wp2
                go_roundw
                case rel => exact ⟨3, 3, rfl, by omega, by omega, rfl, hm2, by first | exact hbel.trans (hb1.mono hzz) | exact (hbel.drew).trans (hb1.mono hzz) | exact (hbel.trans (hb1.mono hzz)).drew | exact ((hbel.drew).trans (hb1.mono hzz)).drew⟩
                case measure => simp [RowKit.intOf]
            · have hg := hgood hb0
              rw [hb0] at hhit
              have hq : (E.toList == (s.extract n (n + 2)).toList) = true := hhit.symm
              have HG := Lib.hid hg
              clear hhit hb0 hnx hgood hmiss hg
              go_wp2
              have hw1 : IntKind.i64.wrap ((n : Int) + 2) = (n : Int) + 2 := IntWalk.i64_in _ (by omega)
              have hw2 : 0 ≤ (n : Int) + 2 := by omega
              have hw3 : ((n : Int) + 2).toNat = n + 2 := by omega
              go_region_with (go_at_call 15; refine (hE _).mono ?_; rintro e w1 ⟨rfl, hb1⟩)
              all_goals
                clear hw1 hw2 hw3
                go_wp2
                go_ret2
                exact ⟨by rw [HG.out.1, HG.out.2]; rfl, by first | exact hbel.trans (hb1.mono hzz) | exact (hbel.drew).trans (hb1.mono hzz) | exact (hbel.trans (hb1.mono hzz)).drew | exact ((hbel.drew).trans (hb1.mono hzz)).drew⟩
      · obtain rfl : kz = 3 := by simpa using hkz0
        have hkz : (3 : Int) ≤ (s.size : Int) - (n : Int) := by omega
        have hks : n + 3 ≤ s.size := by omega
        have hkw : (n : Int) + 3 ≤ (s.size : Int) := by omega
        clear hend hkz0
        have hA0 : accZ s n (3 : Int) 0 = (x.toNat : Int) % 16 := by rw [accZ, HBZ.out]; simp [leadZ]
        have HA0 := Lib.hid hA0
        clear hA0
        go_wp2
        go_loop [7, 8] (fun r i => ∃ j : Nat, j + 1 ≤ 3 ∧ i = .int .i64 ((j + 1 : Nat) : Int) ∧ r = .int .i64 (accZ s n (3 : Int) j)) (fun _ i => 3 - (RowKit.intOf i).toNat)
        case atStart => exact ⟨0, by omega, rfl, by rw [HA0.out]⟩
        case round =>
          obtain ⟨j, hj, rfl, rfl⟩ := hrel
          have hA := accZ_lt s n (3 : Int) j
          have hAle : accZ s n (3 : Int) j ≤ 1048576 := by
            have : j = 0 ∨ j = 1 ∨ j = 2 ∨ j = 3 := by omega
            rcases this with rfl | rfl | rfl | rfl <;> first | (exfalso; omega) | (rw [show (64 : Int) ^ 0 = 1 from rfl] at hA; omega) | (rw [show (64 : Int) ^ 1 = 64 from rfl] at hA; omega) | (rw [show (64 : Int) ^ 2 = 4096 from rfl] at hA; omega) | (rw [show (64 : Int) ^ 3 = 262144 from rfl] at hA; omega)
          replace hA := hA.1
          by_cases hin : j + 1 < 3
          · have hidx : n + (j + 1) < s.size := by omega
            obtain ⟨y, hy⟩ : ∃ y, s[n + (j + 1)]'hidx = y := ⟨_, rfl⟩
            have hyl := y.toNat_lt
            have hnext : accZ s n (3 : Int) (j + 1) = accZ s n (3 : Int) j * 64 + (y.toNat : Int) % 64 := by rw [accZ, byteZ_at s _ hidx, hy]
            have HN := Lib.hid hnext
            clear hnext
            generalize accZ s n (3 : Int) j = A at *
            go_wp2
            go_round
            case rel => exact ⟨j + 1, by omega, by go_num, by rw [HN.out]⟩
            case measure => simp [RowKit.intOf]; omega
          · obtain rfl : j = 2 := by omega
            have hhit : hitB s n 3 = ((strOfNums (encZ (accZ s n (3 : Int) 2))).toList == (s.extract n (n + 3)).toList) := rfl
            have hgood : hitB s n 3 = true → (((decP s n).1 : Nat) : Int) = accZ s n (3 : Int) 2 ∧ (decP s n).2 = 3 := dec_hit s n 3 (by omega) (by omega) hks
            have hnx := fun e => hmiss.next (k := 3) e
            generalize accZ s n (3 : Int) 2 = A at *
            have hE := ref_Encode A
            generalize strOfNums (encZ A) = E at hhit hE
            rcases hb0 : hitB s n 3 with _ | _
            · have hm2 := hnx hb0
              rw [hb0] at hhit
              have hq : (E.toList == (s.extract n (n + 3)).toList) = false := hhit.symm
              clear hhit hb0 hnx hgood
              go_wp2
              have hw1 : IntKind.i64.wrap ((n : Int) + 3) = (n : Int) + 3 := IntWalk.i64_in _ (by omega)
              have hw2 : 0 ≤ (n : Int) + 3 := by omega
              have hw3 : ((n : Int) + 3).toNat = n + 3 := by omega
              go_region_with (go_at_call 15; refine (hE _).mono ?_; rintro e w1 ⟨rfl, hb1⟩)
              all_goals
                clear hw1 hw2 hw3
                go_wp2
                go_roundw
                case rel => exact ⟨4, 4, rfl, by omega, by omega, rfl, hm2, by first | exact hbel.trans (hb1.mono hzz) | exact (hbel.drew).trans (hb1.mono hzz) | exact (hbel.trans (hb1.mono hzz)).drew | exact ((hbel.drew).trans (hb1.mono hzz)).drew⟩
                case measure => simp [RowKit.intOf]
            · have hg := hgood hb0
              rw [hb0] at hhit
              have hq : (E.toList == (s.extract n (n + 3)).toList) = true := hhit.symm
              have HG := Lib.hid hg
              clear hhit hb0 hnx hgood hmiss hg
              go_wp2
              have hw1 : IntKind.i64.wrap ((n : Int) + 3) = (n : Int) + 3 := IntWalk.i64_in _ (by omega)
              have hw2 : 0 ≤ (n : Int) + 3 := by omega
              have hw3 : ((n : Int) + 3).toNat = n + 3 := by omega
              go_region_with (go_at_call 15; refine (hE _).mono ?_; rintro e w1 ⟨rfl, hb1⟩)
              all_goals
                clear hw1 hw2 hw3
                go_wp2
                go_ret2
                exact ⟨by rw [HG.out.1, HG.out.2]; rfl, by first | exact hbel.trans (hb1.mono hzz) | exact (hbel.drew).trans (hb1.mono hzz) | exact (hbel.trans (hb1.mono hzz)).drew | exact ((hbel.drew).trans (hb1.mono hzz)).drew⟩
      · obtain rfl : kz = 4 := by simpa using hkz0
        have hkz : (4 : Int) ≤ (s.size : Int) - (n : Int) := by omega
        have hks : n + 4 ≤ s.size := by omega
        have hkw : (n : Int) + 4 ≤ (s.size : Int) := by omega
        clear hend hkz0
        have hA0 : accZ s n (4 : Int) 0 = (x.toNat : Int) % 8 := by rw [accZ, HBZ.out]; simp [leadZ]
        have HA0 := Lib.hid hA0
        clear hA0
        go_wp2
        go_loop [7, 8] (fun r i => ∃ j : Nat, j + 1 ≤ 4 ∧ i = .int .i64 ((j + 1 : Nat) : Int) ∧ r = .int .i64 (accZ s n (4 : Int) j)) (fun _ i => 4 - (RowKit.intOf i).toNat)
        case atStart => exact ⟨0, by omega, rfl, by rw [HA0.out]⟩
        case round =>
          obtain ⟨j, hj, rfl, rfl⟩ := hrel
          have hA := accZ_lt s n (4 : Int) j
          have hAle : accZ s n (4 : Int) j ≤ 67108864 := by
            have : j = 0 ∨ j = 1 ∨ j = 2 ∨ j = 3 := by omega
            rcases this with rfl | rfl | rfl | rfl <;> first | (exfalso; omega) | (rw [show (64 : Int) ^ 0 = 1 from rfl] at hA; omega) | (rw [show (64 : Int) ^ 1 = 64 from rfl] at hA; omega) | (rw [show (64 : Int) ^ 2 = 4096 from rfl] at hA; omega) | (rw [show (64 : Int) ^ 3 = 262144 from rfl] at hA; omega)
          replace hA := hA.1
          by_cases hin : j + 1 < 4
          · have hidx : n + (j + 1) < s.size := by omega
            obtain ⟨y, hy⟩ : ∃ y, s[n + (j + 1)]'hidx = y := ⟨_, rfl⟩
            have hyl := y.toNat_lt
            have hnext : accZ s n (4 : Int) (j + 1) = accZ s n (4 : Int) j * 64 + (y.toNat : Int) % 64 := by rw [accZ, byteZ_at s _ hidx, hy]
            have HN := Lib.hid hnext
            clear hnext
            generalize accZ s n (4 : Int) j = A at *
            go_wp2
            go_round
            case rel => exact ⟨j + 1, by omega, by go_num, by rw [HN.out]⟩
            case measure => simp [RowKit.intOf]; omega
          · obtain rfl : j = 3 := by omega
            have hhit : hitB s n 4 = ((strOfNums (encZ (accZ s n (4 : Int) 3))).toList == (s.extract n (n + 4)).toList) := rfl
            have hgood : hitB s n 4 = true → (((decP s n).1 : Nat) : Int) = accZ s n (4 : Int) 3 ∧ (decP s n).2 = 4 := dec_hit s n 4 (by omega) (by omega) hks
            have hnx := fun e => hmiss.next (k := 4) e
            generalize accZ s n (4 : Int) 3 = A at *
            have hE := ref_Encode A
            generalize strOfNums (encZ A) = E at hhit hE
            rcases hb0 : hitB s n 4 with _ | _
            · have hm2 := hnx hb0
              rw [hb0] at hhit
              have hq : (E.toList == (s.extract n (n + 4)).toList) = false := hhit.symm
              clear hhit hb0 hnx hgood
              go_wp2
              have hw1 : IntKind.i64.wrap ((n : Int) + 4) = (n : Int) + 4 := IntWalk.i64_in _ (by omega)
              have hw2 : 0 ≤ (n : Int) + 4 := by omega
              have hw3 : ((n : Int) + 4).toNat = n + 4 := by omega
              go_region_with (go_at_call 15; refine (hE _).mono ?_; rintro e w1 ⟨rfl, hb1⟩)
              all_goals
                clear hw1 hw2 hw3
                go_wp2
                go_roundw
                case rel => exact ⟨5, 5, rfl, by omega, by omega, rfl, hm2, by first | exact hbel.trans (hb1.mono hzz) | exact (hbel.drew).trans (hb1.mono hzz) | exact (hbel.trans (hb1.mono hzz)).drew | exact ((hbel.drew).trans (hb1.mono hzz)).drew⟩
                case measure => simp [RowKit.intOf]
            · have hg := hgood hb0
              rw [hb0] at hhit
              have hq : (E.toList == (s.extract n (n + 4)).toList) = true := hhit.symm
              have HG := Lib.hid hg
              clear hhit hb0 hnx hgood hmiss hg
              go_wp2
              have hw1 : IntKind.i64.wrap ((n : Int) + 4) = (n : Int) + 4 := IntWalk.i64_in _ (by omega)
              have hw2 : 0 ≤ (n : Int) + 4 := by omega
              have hw3 : ((n : Int) + 4).toNat = n + 4 := by omega
              go_region_with (go_at_call 15; refine (hE _).mono ?_; rintro e w1 ⟨rfl, hb1⟩)
              all_goals
                clear hw1 hw2 hw3
                go_wp2
                go_ret2
                exact ⟨by rw [HG.out.1, HG.out.2]; rfl, by first | exact hbel.trans (hb1.mono hzz) | exact (hbel.drew).trans (hb1.mono hzz) | exact (hbel.trans (hb1.mono hzz)).drew | exact ((hbel.drew).trans (hb1.mono hzz)).drew⟩
end Go.Proofs.YtdkinamblobjpaaDoor
