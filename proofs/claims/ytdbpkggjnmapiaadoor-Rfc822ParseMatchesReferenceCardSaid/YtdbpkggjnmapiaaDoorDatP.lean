/- The reference of layer 3: Pad and Number: what each returns. -/
import Derived.Test.YtdbpkggjnmapiaaDoorChecked
import Derived.Test.YtdbpkggjnmapiaaDoorDatS
import Derived.WalkSpells
import Derived.Lib.Hide
import Derived.Below
namespace Go.Proofs.YtdbpkggjnmapiaaDoor
open Go.RowKit

theorem dconv1 (w : World) (a : Int) : (convert 42 9 (.slice (some ⟨w.heap.size, 0, none⟩) 1 1)).run Tryd.prog (w.alloc (.cells #[.int .u8 a] 5)) = .ok (.string (strOfNums [a])) (w.alloc (.cells #[.int .u8 a] 5)) :=
  run_convert_bytes_arg _ 42 5 Tryd.underlying42 Tryd.underlying5 _ 0 1 1 [a] rfl (fun i hi => by
    match i, hi with
    | 0, _ => simp) 9 Tryd.underlying9
def strLen : Value → Nat
  | .string s => s.size
  | _ => 0
def p2n (n : Int) (k : Nat) : Int := if k = 0 then n else if k = 1 then n / 10 else 0
def p2s (n : Int) (k : Nat) : List Int := if k = 0 then [] else if k = 1 then [48 + n % 10] else d2 n
set_option maxRecDepth 100000 in
set_option maxHeartbeats 2000000 in
theorem dref_Pad2 (n : Int) (w : World) (h0 : 0 ≤ n) (h1 : n ≤ 99) :
    Calls Tryd.prog 53 #[.int .i64 n, .int .i64 2] w fun e w' => e = .returned (.string (strOfNums (d2 n))) ∧ Below w.heap.size w w' := by
  go_enter Tryd.func53, Tryd.ntmps53
  go_wp2
  go_loopw [0, 5] (fun a v wr => ∃ k : Nat, k ≤ 2 ∧ a = .int .i64 (p2n n k) ∧ v = .string (strOfNums (p2s n k)) ∧ Below w.heap.size w wr) (fun _ v _ => 2 - strLen v)
  case atStart => exact ⟨0, by omega, rfl, rfl, Below.refl _ _⟩
  case round =>
    obtain ⟨k, hk, rfl, rfl, hbel⟩ := hrel
    have hz := hbel.size
    rcases (by omega : k = 0 ∨ k = 1 ∨ k = 2) with rfl | rfl | rfl
    · rw [show p2n n 0 = n from rfl, show p2s n 0 = [] from rfl]
      have hsz : (strOfNums []).size = 0 := rfl
      obtain ⟨x, hx⟩ : ∃ x, x = n := ⟨_, rfl⟩
      have hx0 : 0 ≤ x ∧ x ≤ 99 := by omega
      have HX := Lib.hid hx
      have hcv := dconv1 wr (48 + x % 10)
      have hsz1 : (strOfNums [48 + x % 10]).size = 1 := rfl
      have HA := Lib.hid (str_app [48 + x % 10] [])
      rw [← hx]
      clear hx hk
      generalize strOfNums [] = p at *
      generalize hq : strOfNums [48 + x % 10] = q at *
      have HS := Lib.hid (show (q ++ p).size = 1 by rw [ByteArray.size_append]; omega)
      clear hq
      go_wp2
      all_goals
        have hX := HX.out
        refine ⟨⟨1, by omega, congrArg _ (by simp [p2n]; try omega), congrArg _ (HA.out.trans (congrArg strOfNums ?_)), hbel.alloc hz _⟩, ?_⟩
        · simp [p2s]; try omega
        · simp only [strLen, HS.out, hsz]; omega
    · rw [show p2n n 1 = n / 10 from rfl, show p2s n 1 = [48 + n % 10] from rfl]
      have hsz : (strOfNums [48 + n % 10]).size = 1 := rfl
      obtain ⟨x, hx⟩ : ∃ x, x = n / 10 := ⟨_, rfl⟩
      have hx0 : 0 ≤ x ∧ x ≤ 9 := by omega
      have HX := Lib.hid hx
      have hcv := dconv1 wr (48 + x % 10)
      have hsz1 : (strOfNums [48 + x % 10]).size = 1 := rfl
      have HA := Lib.hid (str_app [48 + x % 10] [48 + n % 10])
      rw [← hx]
      clear hx hk
      generalize strOfNums [48 + n % 10] = p at *
      generalize hq : strOfNums [48 + x % 10] = q at *
      have HS := Lib.hid (show (q ++ p).size = 2 by rw [ByteArray.size_append]; omega)
      clear hq
      go_wp2
      all_goals
        have hX := HX.out
        refine ⟨⟨2, by omega, congrArg _ (by simp [p2n]; try omega), congrArg _ (HA.out.trans (congrArg strOfNums ?_)), hbel.alloc hz _⟩, ?_⟩
        · simp [p2s, d2]; try omega
        · simp only [strLen, HS.out, hsz]; omega
    · rw [show p2n n 2 = 0 from rfl, show p2s n 2 = d2 n from rfl]
      have hsz : (strOfNums (d2 n)).size = 2 := rfl
      generalize hp : strOfNums (d2 n) = p at *
      have HP := Lib.hid hp
      clear hp
      go_wp2
      go_ret
      exact ⟨by rw [HP.out]; rfl, hbel⟩

def p4n (n : Int) (k : Nat) : Int := if k = 0 then n else if k = 1 then n / 10 else if k = 2 then n / 100 else if k = 3 then n / 1000 else 0
def p4s (n : Int) (k : Nat) : List Int := if k = 0 then [] else if k = 1 then [48 + n % 10] else if k = 2 then [48 + n / 10 % 10, 48 + n % 10] else if k = 3 then [48 + n / 100 % 10, 48 + n / 10 % 10, 48 + n % 10] else d4 n
set_option maxRecDepth 100000 in
set_option maxHeartbeats 2000000 in
theorem dref_Pad4 (n : Int) (w : World) (h0 : 0 ≤ n) (h1 : n ≤ 9999) :
    Calls Tryd.prog 53 #[.int .i64 n, .int .i64 4] w fun e w' => e = .returned (.string (strOfNums (d4 n))) ∧ Below w.heap.size w w' := by
  go_enter Tryd.func53, Tryd.ntmps53
  go_wp2
  go_loopw [0, 5] (fun a v wr => ∃ k : Nat, k ≤ 4 ∧ a = .int .i64 (p4n n k) ∧ v = .string (strOfNums (p4s n k)) ∧ Below w.heap.size w wr) (fun _ v _ => 4 - strLen v)
  case atStart => exact ⟨0, by omega, rfl, rfl, Below.refl _ _⟩
  case round =>
    obtain ⟨k, hk, rfl, rfl, hbel⟩ := hrel
    have hz := hbel.size
    rcases (by omega : k = 0 ∨ k = 1 ∨ k = 2 ∨ k = 3 ∨ k = 4) with rfl | rfl | rfl | rfl | rfl
    · rw [show p4n n 0 = n from rfl, show p4s n 0 = [] from rfl]
      have hsz : (strOfNums []).size = 0 := rfl
      obtain ⟨x, hx⟩ : ∃ x, x = n := ⟨_, rfl⟩
      have hx0 : 0 ≤ x ∧ x ≤ 9999 := by omega
      have HX := Lib.hid hx
      have hcv := dconv1 wr (48 + x % 10)
      have hsz1 : (strOfNums [48 + x % 10]).size = 1 := rfl
      have HA := Lib.hid (str_app [48 + x % 10] [])
      rw [← hx]
      clear hx hk
      generalize strOfNums [] = p at *
      generalize hq : strOfNums [48 + x % 10] = q at *
      have HS := Lib.hid (show (q ++ p).size = 1 by rw [ByteArray.size_append]; omega)
      clear hq
      go_wp2
      all_goals
        have hX := HX.out
        refine ⟨⟨1, by omega, congrArg _ (by simp [p4n]; try omega), congrArg _ (HA.out.trans (congrArg strOfNums ?_)), hbel.alloc hz _⟩, ?_⟩
        · simp [p4s]; try omega
        · simp only [strLen, HS.out, hsz]; omega
    · rw [show p4n n 1 = n / 10 from rfl, show p4s n 1 = [48 + n % 10] from rfl]
      have hsz : (strOfNums [48 + n % 10]).size = 1 := rfl
      obtain ⟨x, hx⟩ : ∃ x, x = n / 10 := ⟨_, rfl⟩
      have hx0 : 0 ≤ x ∧ x ≤ 999 := by omega
      have HX := Lib.hid hx
      have hcv := dconv1 wr (48 + x % 10)
      have hsz1 : (strOfNums [48 + x % 10]).size = 1 := rfl
      have HA := Lib.hid (str_app [48 + x % 10] [48 + n % 10])
      rw [← hx]
      clear hx hk
      generalize strOfNums [48 + n % 10] = p at *
      generalize hq : strOfNums [48 + x % 10] = q at *
      have HS := Lib.hid (show (q ++ p).size = 2 by rw [ByteArray.size_append]; omega)
      clear hq
      go_wp2
      all_goals
        have hX := HX.out
        refine ⟨⟨2, by omega, congrArg _ (by simp [p4n]; try omega), congrArg _ (HA.out.trans (congrArg strOfNums ?_)), hbel.alloc hz _⟩, ?_⟩
        · simp [p4s]; try omega
        · simp only [strLen, HS.out, hsz]; omega
    · rw [show p4n n 2 = n / 100 from rfl, show p4s n 2 = [48 + n / 10 % 10, 48 + n % 10] from rfl]
      have hsz : (strOfNums [48 + n / 10 % 10, 48 + n % 10]).size = 2 := rfl
      obtain ⟨x, hx⟩ : ∃ x, x = n / 100 := ⟨_, rfl⟩
      have hx0 : 0 ≤ x ∧ x ≤ 99 := by omega
      have HX := Lib.hid hx
      have hcv := dconv1 wr (48 + x % 10)
      have hsz1 : (strOfNums [48 + x % 10]).size = 1 := rfl
      have HA := Lib.hid (str_app [48 + x % 10] [48 + n / 10 % 10, 48 + n % 10])
      rw [← hx]
      clear hx hk
      generalize strOfNums [48 + n / 10 % 10, 48 + n % 10] = p at *
      generalize hq : strOfNums [48 + x % 10] = q at *
      have HS := Lib.hid (show (q ++ p).size = 3 by rw [ByteArray.size_append]; omega)
      clear hq
      go_wp2
      all_goals
        have hX := HX.out
        refine ⟨⟨3, by omega, congrArg _ (by simp [p4n]; try omega), congrArg _ (HA.out.trans (congrArg strOfNums ?_)), hbel.alloc hz _⟩, ?_⟩
        · simp [p4s]; try omega
        · simp only [strLen, HS.out, hsz]; omega
    · rw [show p4n n 3 = n / 1000 from rfl, show p4s n 3 = [48 + n / 100 % 10, 48 + n / 10 % 10, 48 + n % 10] from rfl]
      have hsz : (strOfNums [48 + n / 100 % 10, 48 + n / 10 % 10, 48 + n % 10]).size = 3 := rfl
      obtain ⟨x, hx⟩ : ∃ x, x = n / 1000 := ⟨_, rfl⟩
      have hx0 : 0 ≤ x ∧ x ≤ 9 := by omega
      have HX := Lib.hid hx
      have hcv := dconv1 wr (48 + x % 10)
      have hsz1 : (strOfNums [48 + x % 10]).size = 1 := rfl
      have HA := Lib.hid (str_app [48 + x % 10] [48 + n / 100 % 10, 48 + n / 10 % 10, 48 + n % 10])
      rw [← hx]
      clear hx hk
      generalize strOfNums [48 + n / 100 % 10, 48 + n / 10 % 10, 48 + n % 10] = p at *
      generalize hq : strOfNums [48 + x % 10] = q at *
      have HS := Lib.hid (show (q ++ p).size = 4 by rw [ByteArray.size_append]; omega)
      clear hq
      go_wp2
      all_goals
        have hX := HX.out
        refine ⟨⟨4, by omega, congrArg _ (by simp [p4n]; try omega), congrArg _ (HA.out.trans (congrArg strOfNums ?_)), hbel.alloc hz _⟩, ?_⟩
        · simp [p4s, d4]; try omega
        · simp only [strLen, HS.out, hsz]; omega
    · rw [show p4n n 4 = 0 from rfl, show p4s n 4 = d4 n from rfl]
      have hsz : (strOfNums (d4 n)).size = 4 := rfl
      generalize hp : strOfNums (d4 n) = p at *
      have HP := Lib.hid hp
      clear hp
      go_wp2
      go_ret
      exact ⟨by rw [HP.out]; rfl, hbel⟩

theorem p10 (k : Nat) (h : k ≤ 4) : (10 : Int) ^ k ≤ 10000 := by
  have : ∀ k : Fin 5, (10 : Int) ^ k.val ≤ 10000 := by decide
  exact this ⟨k, by omega⟩
set_option maxHeartbeats 2000000 in
theorem dref_Number (s : ByteArray) (a v : Int) (w : World) (h0 : 0 ≤ a) (hv0 : 0 < v) (hv4 : v ≤ 4) (hs : s.size ≤ 140737488351232) (ha : a ≤ 140737488355328) :
    Calls Tryd.prog 23 #[.string s, .int .i64 a, .int .i64 v] w fun e w' => e = .returned (.int .i64 (numL (zs s) a.toNat v.toNat)) ∧ w = w' := by
  by_cases hsh : (s.size : Int) - a < v
  · rw [numL_short (zs s) a.toNat v.toNat (by rw [zs_length]; omega) (by omega)]
    go_enter Tryd.func23, Tryd.ntmps23
    go_wp2
    all_goals go_ret
    all_goals exact ⟨rfl, rfl⟩
  · go_enter Tryd.func23, Tryd.ntmps23
    go_wp2
    go_loop [7, 8] (fun n i => ∃ k m : Int, 0 ≤ k ∧ k ≤ v ∧ i = .int .i64 k ∧ n = .int .i64 m ∧ 0 ≤ m ∧ m < 10 ^ k.toNat ∧ numL (zs s) a.toNat v.toNat = numGo (v - k).toNat ((zs s).drop (a + k).toNat) m) (fun _ i => (v - intOf i).toNat)
    case atStart => exact ⟨0, 0, by omega, by omega, rfl, rfl, by omega, by decide, by rw [Int.sub_zero, Int.add_zero]; rfl⟩
    case round =>
      obtain ⟨k, m, hk0, hkv, rfl, rfl, hm0, hm1, hrel⟩ := hrel
      by_cases hlt : k < v
      · have hn : (a + k).toNat < s.size := by omega
        have hd := drop_ch (zs s) (a + k).toNat (by rw [zs_length]; exact hn)
        have hp := p10 k.toNat (by omega)
        have hm2 : m ≤ 9999 := by omega
        obtain ⟨x, hx⟩ : ∃ x, s[(a + k).toNat]'hn = x := ⟨_, rfl⟩
        rw [hd, ch_at s _ hn, hx, show (v - k).toNat = (v - (k + 1)).toNat + 1 by omega, show (a + k).toNat + 1 = (a + (k + 1)).toNat by omega] at hrel
        have HR := Lib.hid hrel
        have HM := Lib.hid hm1
        clear hrel hd hp hm1
        have hx8 := x.toNat_lt
        have hxb : (x.toNat : Int) ≤ 255 := by omega
        clear hx8
        have hc0 : (0 : Int) ≤ (x.toNat : Int) := by omega
        generalize hxc : (x.toNat : Int) = c at *
        rcases (by omega : c < 48 ∨ (48 ≤ c ∧ 57 < c) ∨ (48 ≤ c ∧ c ≤ 57)) with h | ⟨h, g⟩ | ⟨h, g⟩
        · have hdg : dgB c = false := decide_eq_false (by omega)
          clear hm2 HM
          go_wp2
          go_ret
          exact ⟨by rw [HR.out, numGo, hdg]; rfl, rfl⟩
        · have hdg : dgB c = false := decide_eq_false (by omega)
          clear hm2 HM
          go_wp2
          go_ret
          exact ⟨by rw [HR.out, numGo, hdg]; rfl, rfl⟩
        · have hdg : dgB c = true := decide_eq_true ⟨h, g⟩
          go_wp2
          go_round
          case rel => exact ⟨k + 1, m * 10 + (c - 48), by omega, by omega, by go_num, by go_num, by omega, by have := HM.out; rw [show (k + 1).toNat = k.toNat + 1 by omega, Int.pow_succ]; omega, by rw [HR.out, numGo, hdg]; rfl⟩
          case measure => simp [intOf]; omega
      · obtain rfl : k = v := by omega
        rw [Int.sub_self] at hrel
        have hm : numL (zs s) a.toNat k.toNat = m := hrel
        have HN := Lib.hid hm
        clear hrel hm1 hm
        go_wp2
        go_ret
        exact ⟨by rw [HN.out]; rfl, rfl⟩
end Go.Proofs.YtdbpkggjnmapiaaDoor
