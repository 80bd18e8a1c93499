/- Packed from the texts JsI. -/
import Derived.Test.YtkkiklaoljdhhaaGreatDoorYShelf
import Derived.Test.YtkkiklaoljdhhaaGreatDoorYkG
import Derived.Shelf.Unicode.ValidAny
section
namespace Go.Proofs.YtkkiklaoljdhhaaGreatDoor
open Go.RowKit
def sqL (c : Int) : List (Int × Int) → Int
  | [] => -1
  | (l, m) :: r => if l = c then m else sqL c r
theorem sqL_mean (x : UInt8) : sqL (x.toNat : Int) escT = meanJ x := by
  unfold meanJ escT
  simp only [sqL]
  repeat' split
  all_goals omega
theorem escT_ne : ∀ k : Fin 8, (escT.getD k.val (0, 0)).2 ≠ -1 ∧ 0 ≤ (escT.getD k.val (0, 0)).2 ∧ (escT.getD k.val (0, 0)).2 ≤ 255 := by decide
theorem jretN {a : Int} {n : Nat} {b : Int} {p : Int × Nat} (h : p = (a, n)) (hb : (n : Int) = b) : Ending.returned (.tuple #[.int .i32 a, .int .i64 b]) = .returned (.tuple #[.int .i32 p.1, .int .i64 ((p.2 : Nat) : Int)]) := by subst h hb; rfl
set_option maxRecDepth 100000 in
set_option maxHeartbeats 32000000 in
theorem js_sequence (s : ByteArray) (w : World) (hs : s.size ≤ 1000000) (h2 : 2 ≤ s.size) (hE : EscJ w) (hR : ErrJ w) :
    Calls Tryz.prog 111 #[.string s] w fun e w' => e = .returned (.tuple #[.int .i32 (seqL s.data.toList).1, .int .i64 ((seqL s.data.toList).2 : Nat)]) ∧ Below w.heap.size w w' := by
  have c0 : w.cell? ⟨3, 0, none⟩ = some (.int .u8 34) := (hE 0 (by decide)).1
  have c1 : w.cell? ⟨3, 1, none⟩ = some (.int .u8 34) := (hE 0 (by decide)).2
  have c2 : w.cell? ⟨3, 2, none⟩ = some (.int .u8 92) := (hE 1 (by decide)).1
  have c3 : w.cell? ⟨3, 3, none⟩ = some (.int .u8 92) := (hE 1 (by decide)).2
  have c4 : w.cell? ⟨3, 4, none⟩ = some (.int .u8 47) := (hE 2 (by decide)).1
  have c5 : w.cell? ⟨3, 5, none⟩ = some (.int .u8 47) := (hE 2 (by decide)).2
  have c6 : w.cell? ⟨3, 6, none⟩ = some (.int .u8 98) := (hE 3 (by decide)).1
  have c7 : w.cell? ⟨3, 7, none⟩ = some (.int .u8 8) := (hE 3 (by decide)).2
  have c8 : w.cell? ⟨3, 8, none⟩ = some (.int .u8 102) := (hE 4 (by decide)).1
  have c9 : w.cell? ⟨3, 9, none⟩ = some (.int .u8 12) := (hE 4 (by decide)).2
  have c10 : w.cell? ⟨3, 10, none⟩ = some (.int .u8 110) := (hE 5 (by decide)).1
  have c11 : w.cell? ⟨3, 11, none⟩ = some (.int .u8 10) := (hE 5 (by decide)).2
  have c12 : w.cell? ⟨3, 12, none⟩ = some (.int .u8 114) := (hE 6 (by decide)).1
  have c13 : w.cell? ⟨3, 13, none⟩ = some (.int .u8 13) := (hE 6 (by decide)).2
  have c14 : w.cell? ⟨3, 14, none⟩ = some (.int .u8 116) := (hE 7 (by decide)).1
  have c15 : w.cell? ⟨3, 15, none⟩ = some (.int .u8 9) := (hE 7 (by decide)).2
  have hix := jix s .i64 1 1 rfl (by omega)
  have hq := seqL.eq_1 s.data.toList
  have hsm := sqL_mean (s.data.toList.getD 1 0)
  rw [← hsm] at hq
  have hu := unitL_bd s.data.toList
  have hv := unitL_bd (s.data.toList.drop 6)
  have hul := unitL_len s.data.toList
  rw [show s.data.toList.length = s.size by simp] at hul
  have cN : ∀ wx, ErrJ wx → _ := fun wx hw => js_number s wx hs hw
  have hsl : s.data.toList.length = s.size := by simp
  have hD6 : (ofBytes (s.data.toList.drop 6)).size ≤ 1000000 := by rw [ofBytes_size, List.length_drop]; omega
  have cM : ∀ wx, ErrJ wx → _ := fun wx hw => js_number (ofBytes (s.data.toList.drop 6)) wx hD6 hw
  rw [ofBytes_list] at cM
  have hsf : 6 ≤ s.size → ∀ wx, _ := fun h wx => slice_from s 6 (by omega) (by omega) wx
  rw [show (6 : Int).toNat = 6 from rfl, eext, List.take_of_length_le (by rw [List.length_drop]; simp)] at hsf
  generalize seqL s.data.toList = Q at *
  generalize unitL s.data.toList = U at *
  generalize unitL (s.data.toList.drop 6) = V at *
  generalize ofBytes (s.data.toList.drop 6) = D at *
  generalize ((s.data.toList.getD 1 0).toNat : Int) = z at *
  have HQ := Lib.hid hq
  have HUL := Lib.hid hul
  clear hE hsm hq hul hsl hD6
  go_enter Tryz.func111, Tryz.ntmps111
  go_wp2
  rw [show (.agg #[.int .u8 34, .int .u8 34, .int .u8 92, .int .u8 92, .int .u8 47, .int .u8 47, .int .u8 98, .int .u8 8, .int .u8 102, .int .u8 12, .int .u8 110, .int .u8 10, .int .u8 114, .int .u8 13, .int .u8 116, .int .u8 9] : Value) = escV from rfl]
  clear c0 c1 c2 c3 c4 c5 c6 c7 c8 c9 c10 c11 c12 c13 c14 c15
  go_loopw [10] (fun q wr => ∃ k : Nat, k ≤ 8 ∧ q = .int .i64 k ∧ sqL z escT = sqL z (escT.drop k) ∧ Below w.heap.size w wr) (fun q _ => 8 - (RowKit.intOf q).toNat)
  case atStart => exact ⟨0, by omega, rfl, rfl, Below.refl _ _⟩
  case round =>
    obtain ⟨k, hk, rfl, hrel, hbel⟩ := hrel
    have hz := hbel.size
    by_cases hlt : k < 8
    · have hiv := escV_at k hlt
      have hd := escT_drop ⟨k, hlt⟩
      have hne := escT_ne ⟨k, hlt⟩
      simp only at hd hne
      rw [hd] at hrel
      generalize escT.getD k (0, 0) = lm at *
      obtain ⟨l, m⟩ := lm
      rw [sqL] at hrel
      simp only at hiv hne
      obtain ⟨hn1, hn2, hn3⟩ := hne
      have hlz : (k : Int) < 8 := by omega
      clear hd cN cM hsf HUL hu hv
      generalize escV = W at *
      by_cases hm : l = z
      · rw [if_pos hm] at hrel
        have hQ := HQ.out
        rw [hrel, if_pos hn1] at hQ
        have HR := Lib.hid hQ
        have hmb : (l == z) = true := by simpa using hm
        clear hrel hm hQ HQ hn1
        go_wp2
        go_quiet (fail)
        go_wp2
        exact bodyPost_ret (v := .tuple #[.int .i32 m, .int .i64 2]) (by simp [results, Tryz.results111, go_sem]) rfl ⟨jretN HR.out rfl, below_drewN (hbel.alloc hz _) _⟩
      · rw [if_neg hm] at hrel
        have HR := Lib.hid hrel
        have hmb : (l == z) = false := by simpa using hm
        clear hrel
        go_wp2
        go_quiet (fail)
        go_wp2
        go_roundw
        case rel => exact ⟨k + 1, by omega, by go_num, HR.out, below_drewN (hbel.alloc hz _) _⟩
        case measure => simp [RowKit.intOf]; omega
    · obtain rfl : k = 8 := by omega
      rw [show sqL z (escT.drop 8) = -1 from rfl] at hrel
      have hQ := HQ.out
      rw [hrel, if_neg (by omega)] at hQ
      have t1 := ErrJ_below hR hbel
      clear hrel hix HQ hR
      by_cases hU : U = -1
      · rw [hU, if_neg (by omega), if_pos (by omega)] at hQ
        have HR := Lib.hid hQ
        rw [hU] at cN
        have cN : ∀ wx, ErrJ wx → Calls Tryz.prog 130 #[.string s] wx fun e w' => e = .returned (.tuple #[.int .i32 0, .bool false]) ∧ Below wx.heap.size wx w' := cN
        clear hQ cM hsf HUL hu hv hU
        go_wp2_with fail
        refine (cN _ t1).mono ?_
        rintro e w1 ⟨rfl, b1⟩
        go_wp2
        exact bodyPost_ret (v := .tuple #[.int .i32 0, .int .i64 0]) (by simp [results, Tryz.results111, go_sem]) rfl ⟨jretN HR.out rfl, hbel.trans (b1.mono hz)⟩
      have h6 := HUL.out hU
      have cN : ∀ wx, ErrJ wx → Calls Tryz.prog 130 #[.string s] wx fun e w' => e = .returned (.tuple #[.int .i32 U, .bool true]) ∧ Below wx.heap.size wx w' := fun wx hw => by
        have := cN wx hw
        unfold numV at this
        rw [if_neg hU] at this
        exact this
      have hsf := hsf h6
      have hU0 : 0 ≤ U := by omega
      have hU1 : U ≤ 65535 := by omega
      clear HUL h6 hu
      by_cases hS : 55296 ≤ U ∧ U ≤ 57343
      · obtain ⟨hS0, hS1⟩ := hS
        by_cases hVn : V = -1
        · rw [hVn] at hQ
          have hQ' : Q = (0, 0) := by
            rw [hQ]
            by_cases h : U ≤ 56319
            · rw [if_pos ⟨hS0, h⟩, if_neg (by omega)]
            · rw [if_neg (by omega), if_pos (by omega)]
          have HR := Lib.hid hQ'
          rw [hVn] at cM
          have cM : ∀ wx, ErrJ wx → Calls Tryz.prog 130 #[.string D] wx fun e w' => e = .returned (.tuple #[.int .i32 0, .bool false]) ∧ Below wx.heap.size wx w' := cM
          clear hQ hQ' hVn hv
          go_wp2_with fail
          refine (cN _ t1).mono ?_
          rintro e w1 ⟨rfl, b1⟩
          have t2 := ErrJ_below t1 b1
          have z1 := b1.size
          go_wp2_with fail
          refine (cM _ t2).mono ?_
          rintro e w2 ⟨rfl, b2⟩
          go_wp2
          exact bodyPost_ret (v := .tuple #[.int .i32 0, .int .i64 0]) (by simp [results, Tryz.results111, go_sem]) rfl ⟨jretN HR.out rfl, (hbel.trans (b1.mono hz)).trans (b2.mono (by omega))⟩
        have cM : ∀ wx, ErrJ wx → Calls Tryz.prog 130 #[.string D] wx fun e w' => e = .returned (.tuple #[.int .i32 V, .bool true]) ∧ Below wx.heap.size wx w' := fun wx hw => by
          have := cM wx hw
          unfold numV at this
          rw [if_neg hVn] at this
          exact this
        have hV0 : 0 ≤ V := by omega
        have hV1 : V ≤ 65535 := by omega
        clear hv
        by_cases hp : U < 56320 ∧ 56320 ≤ V ∧ V ≤ 57343
        · obtain ⟨p1, p2, p3⟩ := hp
          rw [if_pos ⟨hS0, by omega⟩, if_pos ⟨p2, p3⟩] at hQ
          have HR := Lib.hid hQ
          clear hQ
          go_wp2_with fail
          refine (cN _ t1).mono ?_
          rintro e w1 ⟨rfl, b1⟩
          have t2 := ErrJ_below t1 b1
          have z1 := b1.size
          go_wp2_with fail
          refine (cM _ t2).mono ?_
          rintro e w2 ⟨rfl, b2⟩
          go_wp2
          exact bodyPost_ret (v := .tuple #[.int .i32 (65536 + (U - 55296) * 1024 + (V - 56320)), .int .i64 12]) (by simp [results, Tryz.results111, go_sem]) rfl ⟨jretN HR.out rfl, (hbel.trans (b1.mono hz)).trans (b2.mono (by omega))⟩
        · have hQ' : Q = (0, 0) := by
            rw [hQ]
            by_cases h : U ≤ 56319
            · rw [if_pos ⟨hS0, h⟩, if_neg (by omega)]
            · rw [if_neg (by omega), if_pos (by omega)]
          have HR := Lib.hid hQ'
          have hor : 56320 ≤ U ∨ (U < 56320 ∧ V < 56320) ∨ (U < 56320 ∧ 57343 < V) := by omega
          clear hQ hQ' hp
          rcases hor with d | ⟨d, d'⟩ | ⟨d, d'⟩
          all_goals
            go_wp2_with fail
            refine (cN _ t1).mono ?_
            rintro e w1 ⟨rfl, b1⟩
            have t2 := ErrJ_below t1 b1
            have z1 := b1.size
            go_wp2_with fail
            refine (cM _ t2).mono ?_
            rintro e w2 ⟨rfl, b2⟩
            go_wp2
            exact bodyPost_ret (v := .tuple #[.int .i32 0, .int .i64 0]) (by simp [results, Tryz.results111, go_sem]) rfl ⟨jretN HR.out rfl, (hbel.trans (b1.mono hz)).trans (b2.mono (by omega))⟩
      · rw [if_neg (by omega), if_neg (by omega)] at hQ
        have HR := Lib.hid hQ
        have hor : U < 55296 ∨ (55296 ≤ U ∧ 57343 < U) := by omega
        clear hQ hS cM hv hsf
        rcases hor with d | ⟨d, d'⟩
        all_goals
          go_wp2_with fail
          refine (cN _ t1).mono ?_
          rintro e w1 ⟨rfl, b1⟩
          go_wp2
          exact bodyPost_ret (v := .tuple #[.int .i32 U, .int .i64 6]) (by simp [results, Tryz.results111, go_sem]) rfl ⟨jretN HR.out rfl, hbel.trans (b1.mono hz)⟩
end Go.Proofs.YtkkiklaoljdhhaaGreatDoor
end
