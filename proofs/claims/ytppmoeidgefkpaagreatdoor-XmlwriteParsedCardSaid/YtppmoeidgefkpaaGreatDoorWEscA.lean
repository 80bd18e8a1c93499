/- Packed from the texts EscA. -/
import Derived.Test.YtppmoeidgefkpaaGreatDoorWKit
import Derived.Test.YtppmoeidgefkpaaGreatDoorWTextA
import Derived.Test.YtppmoeidgefkpaaGreatDoorChecked
set_option maxRecDepth 100000
namespace Go.Proofs.YtppmoeidgefkpaaGreatDoor
section
open Go.RowKit
theorem eretI {k : IntKind} {a b : Int} (h : a = b) : Ending.returned (.int k a) = .returned (.int k b) := by rw [h]
def digI (c : Int) : Int := if 48 ≤ c ∧ c ≤ 57 then c - 48 else if 97 ≤ c ∧ c ≤ 102 then c - 87 else if 65 ≤ c ∧ c ≤ 70 then c - 55 else 16
theorem digI_bd (c : Int) : 0 ≤ digI c ∧ digI c ≤ 16 := by
 unfold digI
 split
 ·omega
 ·split
  ·omega
  ·split <;> omega
set_option maxHeartbeats 2000000 in
theorem eref_digit (c : Int) (w : World) (h0 : 0 ≤ c) (h1 : c ≤ 255) :
  Calls Tryz.prog 134 #[.int .u8 c] w fun e w' => e = .returned (.int .i64 (digI c)) ∧ w = w' := by
 rcases (by omega : (48 ≤ c ∧ c ≤ 57) ∨ (97 ≤ c ∧ c ≤ 102) ∨ (65 ≤ c ∧ c ≤ 70) ∨ c < 48 ∨ (57 < c ∧ c < 65) ∨ (70 < c ∧ c < 97) ∨ 102 < c) with ⟨a, b⟩ | ⟨a, b⟩ | ⟨a, b⟩ | a | ⟨a, b⟩ | ⟨a, b⟩ | a
 ·have hd : digI c = c - 48 := by unfold digI; rw [if_pos ⟨a, b⟩]
  have HD := Lib.hid hd
  clear hd
  go_enter Tryz.func134, Tryz.ntmps134
  go_wp2
  go_ret
  exact ⟨eretI HD.out.symm, rfl⟩
 ·have hd : digI c = c - 97 + 10 := by unfold digI; rw [if_neg (by omega), if_pos ⟨a, b⟩]; omega
  have HD := Lib.hid hd
  clear hd
  go_enter Tryz.func134, Tryz.ntmps134
  go_wp2
  go_ret
  exact ⟨eretI HD.out.symm, rfl⟩
 ·have hd : digI c = c - 65 + 10 := by unfold digI; rw [if_neg (by omega), if_neg (by omega), if_pos ⟨a, b⟩]; omega
  have HD := Lib.hid hd
  clear hd
  go_enter Tryz.func134, Tryz.ntmps134
  go_wp2
  go_ret
  exact ⟨eretI HD.out.symm, rfl⟩
 all_goals
  have hd : digI c = 16 := by unfold digI; rw [if_neg (by omega), if_neg (by omega), if_neg (by omega)]
  have HD := Lib.hid hd
  clear hd
  go_enter Tryz.func134, Tryz.ntmps134
  go_wp2
  go_ret
  exact ⟨eretI HD.out.symm, rfl⟩
def numR (base : Int) : List UInt8 → Int → Int
 | [], n => n
 | c :: r, n => if base ≤ digI (c.toNat : Int) then -1 else numR base r (if 2000000 < n * base + digI (c.toNat : Int) then 2000000 else n * base + digI (c.toNat : Int))
def numB (base : Int) (l : List UInt8) : Int := if l.isEmpty then -1 else numR base l 0
theorem numR_bd (base : Int) (hb : 0 ≤ base) : ∀ (l : List UInt8) (n : Int), 0 ≤ n → n ≤ 2000000 → -1 ≤ numR base l n ∧ numR base l n ≤ 2000000
 | [], n, h0, h1 => by rw [numR]; omega
 | c :: r, n, h0, h1 => by
  have hd := digI_bd (c.toNat : Int)
  have hm : 0 ≤ n * base := Int.mul_nonneg h0 hb
  rw [numR]
  split
  ·omega
  ·exact numR_bd base hb r _ (by split <;> omega) (by split <;> omega)
theorem numB_bd (base : Int) (hb : 0 ≤ base) (l : List UInt8) : -1 ≤ numB base l ∧ numB base l ≤ 2000000 := by
 unfold numB
 split
 ·omega
 ·exact numR_bd base hb l 0 (by omega) (by omega)
set_option maxHeartbeats 4000000 in
theorem eref_number (s : ByteArray) (base : Int) (w : World) (hs : s.size ≤ 1000000) (hb : base = 10 ∨ base = 16) :
  Calls Tryz.prog 118 #[.string s, .int .i64 base] w fun e w' => e = .returned (.int .i64 (numB base s.data.toList)) ∧ w = w' := by
 have hsl : s.data.toList.length = s.size := by simp
 rcases Nat.eq_zero_or_pos s.size with h0 | h0
 ·have hl : s.data.toList = [] := List.eq_nil_of_length_eq_zero (by omega)
  have HN := Lib.hid (show numB base s.data.toList = -1 by rw [hl]; rfl)
  have he : s.toList.isEmpty = true := by rw [ByteArray.toList_eq, hl]; rfl
  have he2 : s.toList = [] := by rw [ByteArray.toList_eq, hl]
  clear hl hsl
  go_enter Tryz.func118, Tryz.ntmps118
  go_wp2
  go_ret
  exact ⟨eretI HN.out.symm, rfl⟩
 ·have hne : s.data.toList ≠ [] := fun e => by rw [e] at hsl; simp at hsl; omega
  have hnb : numB base s.data.toList = numR base s.data.toList 0 := by
   unfold numB; rw [if_neg (by simpa using hne)]
  have he : s.toList.isEmpty = false := by rw [ByteArray.toList_eq]; cases h : s.data.toList with | nil => exact absurd h hne | cons _ _ => rfl
  have he2 : ¬ s.toList = [] := by rw [ByteArray.toList_eq]; exact hne
  have HSL := Lib.hid hsl
  have HNB := Lib.hid hnb
  clear hsl hnb hne
  go_enter Tryz.func118, Tryz.ntmps118
  go_wp2
  go_loop [5, 6] (fun n i => ∃ (k : Nat) (m : Int), k ≤ s.size ∧ i = .int .i64 k ∧ n = .int .i64 m ∧ 0 ≤ m ∧ m ≤ 2000000 ∧ numR base s.data.toList 0 = numR base (s.data.toList.drop k) m) (fun _ i => s.size - (intOf i).toNat)
  case atStart => exact ⟨0, 0, by omega, rfl, rfl, by omega, by omega, rfl⟩
  case round =>
   obtain ⟨k, m, hk, rfl, rfl, hm0, hm1, hrel⟩ := hrel
   by_cases hlt : k < s.size
   ·have hkl : k < s.data.toList.length := by have := HSL.out; omega
    have hd := List.drop_eq_getElem_cons hkl
    obtain ⟨x, hx⟩ : ∃ x, s[k]'hlt = x := ⟨_, rfl⟩
    have hxl : s.data.toList[k]'hkl = x := by rw [← hx]; simp [ByteArray.getElem_eq_getElem_data]
    rw [hd, hxl, numR] at hrel
    have hx8 := x.toNat_lt
    have hxb : (x.toNat : Int) ≤ 255 := by omega
    have hx0 : (0 : Int) ≤ (x.toNat : Int) := by omega
    have cD : ∀ wx, _ := fun wx => eref_digit (x.toNat : Int) wx hx0 hxb
    have hdb := digI_bd (x.toNat : Int)
    generalize digI (x.toNat : Int) = g at *
    clear hx8 hd hxl
    rcases (by omega : base ≤ g ∨ g < base) with hg | hg
    ·rw [if_pos hg] at hrel
     have HR := Lib.hid hrel
     clear hrel hb
     (go_wp2_with fail); (refine (cD _).mono ?_); (rintro e w' ⟨rfl, rfl⟩)
     go_wp2
     go_ret
     exact ⟨eretI (by rw [HNB.out, HR.out]), rfl⟩
    ·rw [if_neg (by omega)] at hrel
     rcases hb with rfl | rfl
     ·rcases (by omega : 2000000 < m * 10 + g ∨ m * 10 + g ≤ 2000000) with hq | hq
      ·rw [if_pos hq] at hrel
       have HR := Lib.hid hrel
       clear hrel
       (go_wp2_with fail); (refine (cD _).mono ?_); (rintro e w' ⟨rfl, rfl⟩)
       go_wp2
       go_round
       case rel => exact ⟨k + 1, 2000000, by omega, by go_num, rfl, by omega, by omega, HR.out⟩
       case measure => simp [intOf]; omega
      ·rw [if_neg (by omega)] at hrel
       have HR := Lib.hid hrel
       clear hrel
       (go_wp2_with fail); (refine (cD _).mono ?_); (rintro e w' ⟨rfl, rfl⟩)
       go_wp2
       go_round
       case rel => exact ⟨k + 1, m * 10 + g, by omega, by go_num, by go_num, by omega, by omega, HR.out⟩
       case measure => simp [intOf]; omega
     ·rcases (by omega : 2000000 < m * 16 + g ∨ m * 16 + g ≤ 2000000) with hq | hq
      ·rw [if_pos hq] at hrel
       have HR := Lib.hid hrel
       clear hrel
       (go_wp2_with fail); (refine (cD _).mono ?_); (rintro e w' ⟨rfl, rfl⟩)
       go_wp2
       go_round
       case rel => exact ⟨k + 1, 2000000, by omega, by go_num, rfl, by omega, by omega, HR.out⟩
       case measure => simp [intOf]; omega
      ·rw [if_neg (by omega)] at hrel
       have HR := Lib.hid hrel
       clear hrel
       (go_wp2_with fail); (refine (cD _).mono ?_); (rintro e w' ⟨rfl, rfl⟩)
       go_wp2
       go_round
       case rel => exact ⟨k + 1, m * 16 + g, by omega, by go_num, by go_num, by omega, by omega, HR.out⟩
       case measure => simp [intOf]; omega
   ·rw [List.drop_eq_nil_of_le (by have := HSL.out; omega), numR] at hrel
    have HR := Lib.hid hrel
    clear hrel hb
    go_wp2
    go_ret
    exact ⟨eretI (by rw [HNB.out, HR.out]), rfl⟩
def namedP (l : List UInt8) : Int := if l = [108, 116] then 60 else if l = [103, 116] then 62 else if l = [97, 109, 112] then 38 else if l = [97, 112, 111, 115] then 39 else if l = [113, 117, 111, 116] then 34 else -1
theorem namedP_bd (l : List UInt8) : -1 ≤ namedP l ∧ namedP l ≤ 62 := by
 unfold namedP
 repeat (first | omega | split)
set_option maxHeartbeats 2000000 in
theorem eref_named (s : ByteArray) (w : World) :
  Calls Tryz.prog 117 #[.string s] w fun e w' => e = .returned (.int .i64 (namedP s.data.toList)) ∧ w = w' := by
 rw [← ByteArray.toList_eq]
 have HN := Lib.hid (show namedP s.toList = _ from rfl)
 go_enter Tryz.func117, Tryz.ntmps117
 go_wp2
 all_goals go_ret
 all_goals exact ⟨eretI (by unfold namedP; simp_all), rfl⟩
end
end Go.Proofs.YtppmoeidgefkpaaGreatDoor
