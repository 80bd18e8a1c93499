/- The walk of the law of layer 5 on numbers with leading zeros. -/
import Derived.Test.YtofoloidllkfaaaDoorEscL
import Derived.Test.YtofoloidllkfaaaDoorShelf
import Derived.Lib.ItoaNum
namespace Go.Proofs.YtofoloidllkfaaaDoor
open Go.RowKit

def decS (m : Nat) (acc : List UInt8) : List UInt8 := if m = 0 then acc else Lib.decDigits m ++ acc
def digU (m : Nat) : UInt8 := UInt8.ofNat (48 + m % 10)
theorem decS_step (m : Nat) (acc : List UInt8) (h : 0 < m) : decS m acc = decS (m / 10) (digU m :: acc) := by
  unfold decS digU
  rw [if_neg (by omega)]
  by_cases h10 : m < 10
  · rw [if_pos (by omega), Lib.decDigits, dif_pos h10, Nat.mod_eq_of_lt h10]; rfl
  · rw [if_neg (by omega), Lib.decDigits, dif_neg h10]; simp
theorem econv1 (w : World) (m : Nat) : (convert 36 9 (.slice (some ⟨w.heap.size, 0, none⟩) 1 1)).run Tryd.prog (w.alloc (.cells #[.int .u8 (48 + (m : Int) % 10)] 5)) = .ok (.string (ofBytes [digU m])) (w.alloc (.cells #[.int .u8 (48 + (m : Int) % 10)] 5)) := by
  have h := conv1 w (48 + (m : Int) % 10)
  rw [show strOfNums [48 + (m : Int) % 10] = ofBytes [digU m] by
    apply estr_ext
    rw [strOfNums_data, ofBytes_list]
    simp only [List.map_cons, List.map_nil, digU]
    rw [show (48 + (m : Int) % 10).toNat = 48 + m % 10 by omega]] at h
  exact h
def eStrLen : Value → Nat
  | .string s => s.size
  | _ => 0
theorem ob_empty (l : List UInt8) : (ofBytes l).toList = l := by rw [ByteArray.toList_eq, ofBytes_list]

set_option maxRecDepth 100000 in
set_option maxHeartbeats 4000000 in
theorem esc_decimal (n : Nat) (w : World) (hn : n ≤ 2000000) :
    Calls Tryd.prog 19 #[.int .i64 n] w fun e w' => e = .returned (.string (ofBytes (Lib.decDigits n))) ∧ Below w.heap.size w w' := by
  go_enter Tryd.func19, Tryd.ntmps19
  go_wp2
  go_loopw [0, 3] (fun q v wr => ∃ (m : Nat) (acc : List UInt8), q = .int .i64 m ∧ v = .string (ofBytes acc) ∧ acc.length + m ≤ n + 1 ∧ ((acc = [] ∧ m = n) ∨ (acc ≠ [] ∧ Lib.decDigits n = decS m acc)) ∧ Below w.heap.size w wr) (fun q v _ => (intOf q).toNat + (if eStrLen v = 0 then 1 else 0))
  case atStart => exact ⟨n, [], rfl, rfl, by simp, .inl ⟨rfl, rfl⟩, Below.refl _ _⟩
  case round =>
    obtain ⟨m, acc, rfl, rfl, hlen, hrel, hbel⟩ := hrel
    have hz := hbel.size
    have q1 := econv1 wr m
    have happ : ofBytes [digU m] ++ ofBytes acc = ofBytes (digU m :: acc) := eob_app _ _
    have HAP := Lib.hid happ
    have hs1 : (ofBytes [digU m]).size = 1 := rfl
    have hs2 : (ofBytes acc).size ≤ 2000001 := by rw [ofBytes_size]; omega
    have hsz : (ofBytes acc).size = acc.length := ofBytes_size _
    have hsz2 : (ofBytes (digU m :: acc)).size = acc.length + 1 := ofBytes_size _
    have hm6 : (m : Int) ≤ 2000001 := by omega
    rcases Nat.eq_zero_or_pos m with hm | hm
    · subst hm
      by_cases hac : acc = []
      · subst hac
        have hn0 : n = 0 := by
          rcases hrel with ⟨_, h⟩ | ⟨h, _⟩
          · exact h.symm
          · exact absurd rfl h
        subst hn0
        have he : (ofBytes []).toList.isEmpty = true := by rw [ob_empty]; rfl
        have he2 : (ofBytes []).toList = [] := ob_empty []
        rw [show 48 + ((0 : Nat) : Int) % 10 = 48 from rfl] at q1
        have HZ1 := Lib.hid hsz
        have HZ2 := Lib.hid hsz2
        clear hrel hlen happ hsz hsz2
        go_wp2
        go_roundw
        case rel => exact ⟨0, [digU 0], by go_num, by rw [HAP.out], by simp, .inr ⟨by simp, by simp [decS, digU, Lib.decDigits]⟩, hbel.alloc hz _⟩
        case measure => simp [intOf, eStrLen]; decide
      · have hd : Lib.decDigits n = acc := by
          rcases hrel with ⟨h, _⟩ | ⟨_, h⟩
          · exact absurd h hac
          · rw [h]; rfl
        have he : (ofBytes acc).toList.isEmpty = false := by rw [ob_empty]; cases acc with | nil => exact absurd rfl hac | cons _ _ => rfl
        have he2 : ¬ (ofBytes acc).toList = [] := by rw [ob_empty]; exact hac
        have HD := Lib.hid hd
        clear hrel hlen hd happ hac hsz hsz2 q1
        go_wp2
        go_ret
        exact ⟨by rw [HD.out]; rfl, hbel⟩
    · have hd : Lib.decDigits n = decS (m / 10) (digU m :: acc) := by
        rw [← decS_step m acc hm]
        rcases hrel with ⟨h1, h2⟩ | ⟨_, h⟩
        · rw [h1, h2]; unfold decS; rw [if_neg (by omega), List.append_nil]
        · exact h
      have HD := Lib.hid hd
      have HL := Lib.hid hlen
      have HZ1 := Lib.hid hsz
      have HZ2 := Lib.hid hsz2
      have hmz : (0 : Int) < (m : Int) := by omega
      clear hrel hlen hd happ hsz hsz2
      go_wp2
      go_roundw
      case rel => exact ⟨m / 10, digU m :: acc, by go_num, by rw [HAP.out], by have := HL.out; simp; omega, .inr ⟨by simp, HD.out⟩, hbel.alloc hz _⟩
      case measure => have h1 := HZ1.out; have h2 := HZ2.out; simp [intOf, eStrLen, HAP.out, h1, h2]; omega
end Go.Proofs.YtofoloidllkfaaaDoor
