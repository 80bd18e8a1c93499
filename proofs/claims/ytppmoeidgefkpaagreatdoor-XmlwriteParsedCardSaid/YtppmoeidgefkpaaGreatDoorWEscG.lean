/- Packed from the texts EscG. -/
import Derived.Test.YtppmoeidgefkpaaGreatDoorWEscF
import Derived.Lib.OthersKept
import Derived.Laws.RangeAny
import Derived.WalkKit
set_option maxRecDepth 100000
namespace Go.Proofs.YtppmoeidgefkpaaGreatDoor
section
open Go.RowKit
theorem eretS {a b : ByteArray} (h : a = b) : Ending.returned (.string a) = .returned (.string b) := by rw [h]
theorem eretT {a b : Int} {x : Bool} (h : a = b) : Ending.returned (.tuple #[.int .i32 a, .bool x]) = .returned (.tuple #[.int .i32 b, .bool x]) := by rw [h]
theorem repB_f (c : UInt8) : repB false c = if c.toNat = 38 then [38, 97, 109, 112, 59] else if c.toNat = 60 then [38, 108, 116, 59] else if c.toNat = 62 then [38, 103, 116, 59] else if c.toNat = 13 then [38, 35, 49, 51, 59] else [] := rfl
theorem repB_t (c : UInt8) : repB true c = if c.toNat = 34 then [38, 113, 117, 111, 116, 59] else if c.toNat = 9 then [38, 35, 57, 59] else if c.toNat = 10 then [38, 35, 49, 48, 59] else repB false c := by
 unfold repB
 simp
set_option maxHeartbeats 4000000 in
theorem esc_inText (x : UInt8) (w : World) :
  Calls Tryz.prog 40 #[.int .u8 (x.toNat : Int)] w fun e w' => e = .returned (.string (oB (repB false x))) ∧ w = w' := by
 have hr := repB_f x
 obtain ⟨z, hz⟩ : ∃ z : Int, (x.toNat : Int) = z := ⟨_, rfl⟩
 rw [hz]
 rcases (by omega : z = 38 ∨ z = 60 ∨ z = 62 ∨ z = 13 ∨ (z ≠ 38 ∧ z ≠ 60 ∧ z ≠ 62 ∧ z ≠ 13)) with rfl | rfl | rfl | rfl | ⟨n1, n2, n3, n4⟩
 ·rw [if_pos (by omega)] at hr
  have HR := Lib.hid hr
  clear hr hz
  go_enter Tryz.func40, Tryz.ntmps40
  go_wp2
  go_ret
  exact ⟨eretS (by rw [HR.out]; rfl), rfl⟩
 ·rw [if_neg (by omega), if_pos (by omega)] at hr
  have HR := Lib.hid hr
  clear hr hz
  go_enter Tryz.func40, Tryz.ntmps40
  go_wp2
  go_ret
  exact ⟨eretS (by rw [HR.out]; rfl), rfl⟩
 ·rw [if_neg (by omega), if_neg (by omega), if_pos (by omega)] at hr
  have HR := Lib.hid hr
  clear hr hz
  go_enter Tryz.func40, Tryz.ntmps40
  go_wp2
  go_ret
  exact ⟨eretS (by rw [HR.out]; rfl), rfl⟩
 ·rw [if_neg (by omega), if_neg (by omega), if_neg (by omega), if_pos (by omega)] at hr
  have HR := Lib.hid hr
  clear hr hz
  go_enter Tryz.func40, Tryz.ntmps40
  go_wp2
  go_ret
  exact ⟨eretS (by rw [HR.out]; rfl), rfl⟩
 ·rw [if_neg (by omega), if_neg (by omega), if_neg (by omega), if_neg (by omega)] at hr
  have HR := Lib.hid hr
  have q1 : (z == 38) = false := by simpa using n1
  have q2 : (z == 60) = false := by simpa using n2
  have q3 : (z == 62) = false := by simpa using n3
  have q4 : (z == 13) = false := by simpa using n4
  clear hr hz n1 n2 n3 n4
  go_enter Tryz.func40, Tryz.ntmps40
  go_wp2
  go_ret
  exact ⟨eretS (by rw [HR.out]; rfl), rfl⟩
set_option maxHeartbeats 4000000 in
theorem esc_inAttr (x : UInt8) (w : World) :
  Calls Tryz.prog 41 #[.int .u8 (x.toNat : Int)] w fun e w' => e = .returned (.string (oB (repB true x))) ∧ w = w' := by
 have hr := repB_t x
 have c1 : ∀ wx, _ := fun wx => esc_inText x wx
 obtain ⟨z, hz⟩ : ∃ z : Int, (x.toNat : Int) = z := ⟨_, rfl⟩
 rw [hz] at c1 ⊢
 rcases (by omega : z = 34 ∨ z = 9 ∨ z = 10 ∨ (z ≠ 34 ∧ z ≠ 9 ∧ z ≠ 10)) with rfl | rfl | rfl | ⟨n1, n2, n3⟩
 ·rw [if_pos (by omega)] at hr
  have HR := Lib.hid hr
  clear hr hz c1
  go_enter Tryz.func41, Tryz.ntmps41
  go_wp2
  go_ret
  exact ⟨eretS (by rw [HR.out]; rfl), rfl⟩
 ·rw [if_neg (by omega), if_pos (by omega)] at hr
  have HR := Lib.hid hr
  clear hr hz c1
  go_enter Tryz.func41, Tryz.ntmps41
  go_wp2
  go_ret
  exact ⟨eretS (by rw [HR.out]; rfl), rfl⟩
 ·rw [if_neg (by omega), if_neg (by omega), if_pos (by omega)] at hr
  have HR := Lib.hid hr
  clear hr hz c1
  go_enter Tryz.func41, Tryz.ntmps41
  go_wp2
  go_ret
  exact ⟨eretS (by rw [HR.out]; rfl), rfl⟩
 ·rw [if_neg (by omega), if_neg (by omega), if_neg (by omega)] at hr
  rw [hr]
  have q1 : (z == 34) = false := by simpa using n1
  have q2 : (z == 9) = false := by simpa using n2
  have q3 : (z == 10) = false := by simpa using n3
  clear hr hz n1 n2 n3
  generalize oB (repB false x) = T at *
  go_enter Tryz.func41, Tryz.ntmps41
  (go_wp2_with fail); (refine (c1 _).mono ?_); (rintro e w' ⟨rfl, rfl⟩)
  go_wp2
  go_ret
  exact ⟨rfl, rfl⟩
set_option maxHeartbeats 4000000 in
theorem esc_digit (c base : Int) (w : World) (h0 : 0 ≤ c) (h1 : c ≤ 2147483647) (hb : base = 10 ∨ base = 16) :
  Calls Tryz.prog 144 #[.int .i32 c, .int .i32 base] w fun e w' => e = .returned (.tuple #[.int .i32 (if digI c < base then digI c else 0), .bool (decide (digI c < base))]) ∧ w = w' := by
 rcases (by omega : (48 ≤ c ∧ c ≤ 57) ∨ (97 ≤ c ∧ c ≤ 102) ∨ (65 ≤ c ∧ c ≤ 70) ∨ c < 48 ∨ (57 < c ∧ c < 65) ∨ (70 < c ∧ c < 97) ∨ 102 < c) with ⟨a, b⟩ | ⟨a, b⟩ | ⟨a, b⟩ | a | ⟨a, b⟩ | ⟨a, b⟩ | a
 ·have hd : digI c = c - 48 := by unfold digI; rw [if_pos ⟨a, b⟩]
  rw [hd, if_pos (by omega), decide_eq_true (by omega)]
  clear hd
  rcases hb with rfl | rfl
  all_goals
   go_enter Tryz.func144, Tryz.ntmps144
   go_wp2
   go_ret2
   exact ⟨rfl, rfl⟩
 ·have hd : digI c = c - 87 := by unfold digI; rw [if_neg (by omega), if_pos ⟨a, b⟩]
  rw [hd]
  clear hd
  rcases hb with rfl | rfl
  ·rw [if_neg (by omega), decide_eq_false (by omega)]
   go_enter Tryz.func144, Tryz.ntmps144
   go_wp2
   go_ret2
   exact ⟨rfl, rfl⟩
  ·rw [if_pos (by omega), decide_eq_true (by omega)]
   obtain ⟨d, hd⟩ : ∃ d, d = c - 87 := ⟨_, rfl⟩
   have HD := Lib.hid (show c - 97 + 10 = d by omega)
   rw [← hd]
   clear hd
   go_enter Tryz.func144, Tryz.ntmps144
   go_wp2
   go_ret2
   exact ⟨eretT HD.out, rfl⟩
 ·have hd : digI c = c - 55 := by unfold digI; rw [if_neg (by omega), if_neg (by omega), if_pos ⟨a, b⟩]
  rw [hd]
  clear hd
  rcases hb with rfl | rfl
  ·rw [if_neg (by omega), decide_eq_false (by omega)]
   go_enter Tryz.func144, Tryz.ntmps144
   go_wp2
   go_ret2
   exact ⟨rfl, rfl⟩
  ·rw [if_pos (by omega), decide_eq_true (by omega)]
   obtain ⟨d, hd⟩ : ∃ d, d = c - 55 := ⟨_, rfl⟩
   have HD := Lib.hid (show c - 65 + 10 = d by omega)
   rw [← hd]
   clear hd
   go_enter Tryz.func144, Tryz.ntmps144
   go_wp2
   go_ret2
   exact ⟨eretT HD.out, rfl⟩
 all_goals
  have hd : digI c = 16 := by unfold digI; rw [if_neg (by omega), if_neg (by omega), if_neg (by omega)]
  rw [hd, if_neg (by omega), decide_eq_false (by omega)]
  clear hd
  rcases hb with rfl | rfl
  all_goals
   go_enter Tryz.func144, Tryz.ntmps144
   go_wp2
   go_ret2
   exact ⟨rfl, rfl⟩
theorem esc_digit_yes (c base : Int) (w : World) (h0 : 0 ≤ c) (h1 : c ≤ 2147483647) (hb : base = 10 ∨ base = 16) (h : digI c < base) :
  Calls Tryz.prog 144 #[.int .i32 c, .int .i32 base] w fun e w' => e = .returned (.tuple #[.int .i32 (digI c), .bool true]) ∧ w = w' := by
 have := esc_digit c base w h0 h1 hb
 rw [if_pos h, decide_eq_true h] at this
 exact this
theorem esc_digit_no (c base : Int) (w : World) (h0 : 0 ≤ c) (h1 : c ≤ 2147483647) (hb : base = 10 ∨ base = 16) (h : base ≤ digI c) :
  Calls Tryz.prog 144 #[.int .i32 c, .int .i32 base] w fun e w' => e = .returned (.tuple #[.int .i32 0, .bool false]) ∧ w = w' := by
 have := esc_digit c base w h0 h1 hb
 rw [if_neg (Int.not_lt.2 h), decide_eq_false (Int.not_lt.2 h)] at this
 exact this
theorem dig_rune (s : ByteArray) (pos : Nat) (h : pos < s.size) : digI ((Utf8.decode s pos).1 : Int) = digI ((s[pos]'h).toNat : Int) ∧ (digI ((s[pos]'h).toNat : Int) < 16 → (Utf8.decode s pos).2 = 1) := by
 by_cases ha : (s[pos]'h).toNat < 128
 ·rw [decode_ascii s pos h ha]
  exact ⟨rfl, fun _ => rfl⟩
 ·have h2 := (decode_high s pos h (by omega)).1
  have e1 : digI ((Utf8.decode s pos).1 : Int) = 16 := by unfold digI; rw [if_neg (by omega), if_neg (by omega), if_neg (by omega)]
  have e2 : digI ((s[pos]'h).toNat : Int) = 16 := by unfold digI; rw [if_neg (by omega), if_neg (by omega), if_neg (by omega)]
  rw [e1, e2]
  exact ⟨rfl, fun h => absurd h (by decide)⟩
set_option maxHeartbeats 8000000 in
theorem esc_number (s : ByteArray) (base : Int) (w : World) (hs : s.size ≤ 1000000) (hb : base = 10 ∨ base = 16) :
  Calls Tryz.prog 132 #[.string s, .int .i32 base] w fun e w' => e = .returned (.tuple #[.int .i32 (numC base s.data.toList 0), .int .i64 (cntC base s.data.toList : Nat)]) ∧ Below w.heap.size w w' := by
 have hsl : s.data.toList.length = s.size := by simp
 have HSL := Lib.hid hsl
 clear hsl
 go_enter Tryz.func132, Tryz.ntmps132
 go_wp2
 go_loopw [6] (fun v wr => ∃ (pos : Nat) (n : Int), pos ≤ s.size ∧ wr.heap[w.heap.size]? = some (.stringIter s pos) ∧ Below w.heap.size w wr ∧ v = .int .i32 n ∧ (0 ≤ n ∧ n ≤ 1114112) ∧ (numC base s.data.toList 0 = numC base (s.data.toList.drop pos) n ∧ cntC base s.data.toList = pos + cntC base (s.data.toList.drop pos))) (fun _ wr => s.size - wr.iterPos w.heap.size)
 case atStart =>
  refine ⟨0, 0, by omega, ?_, (Below.refl _ _).alloc (Nat.le_refl _) _, rfl, ⟨by omega, by omega⟩, rfl, by simp⟩
  have := World.iter_heap w s 0
  simpa using this
 case round =>
  obtain ⟨pos, n, hpz, hit, hbw, rfl, ⟨hn0, hn1⟩, hr1, hr2⟩ := hrel
  have hsz : w.heap.size < wr.heap.size := (Array.getElem?_eq_some_iff.1 hit).1
  by_cases hp : pos < s.size
  ·have hnx : ∀ ty, (Instr.next (.pointer (some ⟨w.heap.size, 0, none⟩)) true ty).run Tryz.prog wr = _ := fun ty => Lib.run_next_any_at wr w.heap.size s pos ty hit hp
   have hd1 := decode_le s pos
   obtain ⟨hdr, hdm⟩ := dig_rune s pos hp
   have hit2 := Lib.iterAt_heap wr w.heap.size s pos (pos + (Utf8.decode s pos).2) hit
   have hbw2 := Lib.below_iterAt hbw (k := w.heap.size) (by omega) s (pos + (Utf8.decode s pos).2)
   have hkl : pos < s.data.toList.length := by have := HSL.out; omega
   rw [List.drop_eq_getElem_cons hkl, show s.data.toList[pos] = s[pos]'hp by simp [ByteArray.getElem_eq_getElem_data], numC] at hr1
   rw [List.drop_eq_getElem_cons hkl, show s.data.toList[pos] = s[pos]'hp by simp [ByteArray.getElem_eq_getElem_data], cntC] at hr2
   rw [← hdr] at hr1 hr2 hdm
   have hgb := digI_bd ((Utf8.decode s pos).1 : Int)
   have hr0 : (0 : Int) ≤ ((Utf8.decode s pos).1 : Int) := by omega
   have hr9 : ((Utf8.decode s pos).1 : Int) ≤ 2147483647 := by omega
   by_cases hg : digI ((Utf8.decode s pos).1 : Int) < base
   ·have cD : ∀ wx, _ := fun wx => esc_digit_yes ((Utf8.decode s pos).1 : Int) base wx hr0 hr9 hb hg
    rw [if_pos hg] at hr1 hr2
    rw [hdm (by omega)] at hnx hit2 hbw2
    generalize digI ((Utf8.decode s pos).1 : Int) = g at *
    generalize ((Utf8.decode s pos).1 : Int) = r at *
    have HIT := Lib.hid hit
    clear hdm hdr hit hbw hd1
    have HI := Lib.hid hit2
    have HR2 := Lib.hid (show cntC base s.data.toList = pos + 1 + cntC base (s.data.toList.drop (pos + 1)) by omega)
    clear hit2 hr2
    rcases hb with rfl | rfl
    ·rcases (by omega : 1114112 < n * 10 + g ∨ n * 10 + g ≤ 1114112) with hq | hq
     ·rw [if_pos hq] at hr1
      have HR1 := Lib.hid hr1
      clear hr1
      go_wp2_with fail
      refine (cD _).mono ?_
      rintro e w' ⟨rfl, rfl⟩
      go_wp2
      go_roundw
      case rel => exact ⟨pos + 1, 1114112, by omega, HI.out, hbw2, rfl, ⟨by omega, by omega⟩, HR1.out, HR2.out⟩
      case measure => simp only [World.iterPos, HI.out, HIT.out]; omega
     ·rw [if_neg (Int.not_lt.2 hq)] at hr1
      have HR1 := Lib.hid hr1
      clear hr1
      go_wp2_with fail
      refine (cD _).mono ?_
      rintro e w' ⟨rfl, rfl⟩
      go_wp2
      go_roundw
      case rel => exact ⟨pos + 1, n * 10 + g, by omega, HI.out, hbw2, by go_num, ⟨by omega, by omega⟩, HR1.out, HR2.out⟩
      case measure => simp only [World.iterPos, HI.out, HIT.out]; omega
    ·rcases (by omega : 1114112 < n * 16 + g ∨ n * 16 + g ≤ 1114112) with hq | hq
     ·rw [if_pos hq] at hr1
      have HR1 := Lib.hid hr1
      clear hr1
      go_wp2_with fail
      refine (cD _).mono ?_
      rintro e w' ⟨rfl, rfl⟩
      go_wp2
      go_roundw
      case rel => exact ⟨pos + 1, 1114112, by omega, HI.out, hbw2, rfl, ⟨by omega, by omega⟩, HR1.out, HR2.out⟩
      case measure => simp only [World.iterPos, HI.out, HIT.out]; omega
     ·rw [if_neg (Int.not_lt.2 hq)] at hr1
      have HR1 := Lib.hid hr1
      clear hr1
      go_wp2_with fail
      refine (cD _).mono ?_
      rintro e w' ⟨rfl, rfl⟩
      go_wp2
      go_roundw
      case rel => exact ⟨pos + 1, n * 16 + g, by omega, HI.out, hbw2, by go_num, ⟨by omega, by omega⟩, HR1.out, HR2.out⟩
      case measure => simp only [World.iterPos, HI.out, HIT.out]; omega
   ·have cD : ∀ wx, _ := fun wx => esc_digit_no ((Utf8.decode s pos).1 : Int) base wx hr0 hr9 hb (Int.not_lt.1 hg)
    rw [if_neg hg] at hr1 hr2
    have HR1 := Lib.hid hr1
    have HR2 := Lib.hid hr2
    clear hr1 hr2 hdm hdr hit hbw hit2 hb hg
    generalize ((Utf8.decode s pos).1 : Int) = r at *
    go_wp2_with fail
    refine (cD _).mono ?_
    rintro e w' ⟨rfl, rfl⟩
    go_wp2
    exact bodyPost_ret (v := .tuple #[.int .i32 n, .int .i64 pos]) (by simp [results, Tryz.results132, go_sem]) rfl ⟨by rw [HR1.out, HR2.out]; rfl, hbw2⟩
  ·have hnx : ∀ ty, (Instr.next (.pointer (some ⟨w.heap.size, 0, none⟩)) true ty).run Tryz.prog wr = _ := fun ty => Lib.run_next_end_at wr w.heap.size s pos ty hit hp
   obtain rfl : pos = s.size := by omega
   rw [List.drop_eq_nil_of_le (by have := HSL.out; omega)] at hr1 hr2
   have HR1 := Lib.hid hr1
   have HR2 := Lib.hid hr2
   clear hr1 hr2 hb hit
   go_wp2
   exact bodyPost_ret (v := .tuple #[.int .i32 n, .int .i64 s.size]) (by simp [results, Tryz.results132, go_sem]) rfl ⟨by rw [HR1.out, HR2.out]; rfl, hbw⟩
end
end Go.Proofs.YtppmoeidgefkpaaGreatDoor
