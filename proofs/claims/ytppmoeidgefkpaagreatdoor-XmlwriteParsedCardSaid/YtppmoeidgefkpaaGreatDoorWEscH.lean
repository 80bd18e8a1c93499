/- Packed from the texts EscH. -/
import Derived.Test.YtppmoeidgefkpaaGreatDoorWEscG
import Derived.Test.YtppmoeidgefkpaaGreatDoorWShelf
import Derived.Test.YtppmoeidgefkpaaGreatDoorWStrK
import Derived.Deep.QuietTactic
import Derived.BigQuiet
import Derived.WalkSmall
set_option maxRecDepth 100000
namespace Go.Proofs.YtppmoeidgefkpaaGreatDoor
section
open Go.RowKit
def nmS (i : Nat) : ByteArray := oB (refNames.getD i ([], 0)).1
def nmR (i : Nat) : Int := (refNames.getD i ([], 0)).2
def EscT (w : World) : Prop := ∃ b o cap, w.cell? ⟨2, 0, none⟩ = some (.slice (some ⟨b, o, none⟩) 5 cap) ∧
 ∀ i, i < 5 → w.cell? ⟨b, o + i * 2, none⟩ = some (.string (nmS i)) ∧ w.cell? ⟨b, o + i * 2 + 1, none⟩ = some (.int .i32 (nmR i))
theorem esc_block_lt {w : World} {a : Addr} {v : Value} (hc : w.cell? a = some v) : a.block < w.heap.size := by
 rcases Nat.lt_or_ge a.block w.heap.size with h' | h'
 ·exact h'
 ·simp [World.cell?, Array.getElem?_eq_none h'] at hc
theorem EscT_below {w w' : World} (h : EscT w) (hb : Below w.heap.size w w') : EscT w' := by
 obtain ⟨b, o, cap, h0, h⟩ := h
 refine ⟨b, o, cap, (hb.cell (esc_block_lt h0)).trans h0, fun i hi => ?_⟩
 obtain ⟨h1, h2⟩ := h i hi
 exact ⟨(hb.cell (esc_block_lt h1)).trans h1, (hb.cell (esc_block_lt h2)).trans h2⟩
theorem esc_HasPrefix (s p : ByteArray) (b : Bool) (w : World) (h : p.data.toList.isPrefixOf s.data.toList = b) : Calls Tryz.prog 85 #[.string s, .string p] w fun e w' => e = .returned (.bool b) ∧ w = w' := by
 have := Tryz.strings_HasPrefix s p w
 rw [show Lib.hasPrefix s.data.toList p.data.toList = b from h] at this
 exact this.mono fun e w' ⟨a, b⟩ => ⟨a, b.symm⟩
theorem esc_CutPrefix_yes (s p : ByteArray) (w : World) (h : p.data.toList.isPrefixOf s.data.toList = true) : Calls Tryz.prog 131 #[.string s, .string p] w fun e w' => e = .returned (.tuple #[.string (oB (s.data.toList.drop p.data.toList.length)), .bool true]) ∧ w = w' := by
 have := Tryz.strings_CutPrefix s p w
 rw [show Lib.trimPrefix s.data.toList p.data.toList = s.data.toList.drop p.data.toList.length by unfold Lib.trimPrefix Lib.hasPrefix; rw [if_pos h], show Lib.hasPrefix s.data.toList p.data.toList = true from h] at this
 exact this.mono fun e w' ⟨a, b⟩ => ⟨a, b.symm⟩
theorem esc_CutPrefix_no (s p : ByteArray) (w : World) (h : p.data.toList.isPrefixOf s.data.toList = false) : Calls Tryz.prog 131 #[.string s, .string p] w fun e w' => e = .returned (.tuple #[.string s, .bool false]) ∧ w = w' := by
 have := Tryz.strings_CutPrefix s p w
 rw [show Lib.trimPrefix s.data.toList p.data.toList = s.data.toList by unfold Lib.trimPrefix Lib.hasPrefix; rw [if_neg (by rw [h]; decide)], show Lib.hasPrefix s.data.toList p.data.toList = false from h, show (⟨s.data.toList.toArray⟩ : ByteArray) = s from oBd s] at this
 exact this.mono fun e w' ⟨a, b⟩ => ⟨a, b.symm⟩
theorem names_drop : ∀ k : Fin 5, refNames.drop k.val = (refNames.getD k.val ([], 0)) :: refNames.drop (k.val + 1) := by decide
theorem nmS_size : ∀ k : Fin 5, (nmS k.val).size = (refNames.getD k.val ([], 0)).1.length := by decide
theorem retN {a a' : Int} {n n' : Nat} (h : (a', n') = (a, n)) : Ending.returned (.tuple #[.int .i32 a, .int .i64 (n : Int)]) = .returned (.tuple #[.int .i32 a', .int .i64 (n' : Int)]) := by cases h; rfl
set_option maxHeartbeats 8000000 in
theorem esc_named (s : ByteArray) (w : World) (hT : EscT w) :
  Calls Tryz.prog 114 #[.string s] w fun e w' => e = .returned (.tuple #[.int .i32 (nameIn s.data.toList refNames).1, .int .i64 ((nameIn s.data.toList refNames).2 : Nat)]) ∧ Below w.heap.size w w' := by
 obtain ⟨b, o, cap, h0, hT⟩ := hT
 have hlt1 := esc_block_lt h0
 simp only at hlt1
 have hlt0 : b < w.heap.size := esc_block_lt (hT 0 (by omega)).1
 go_enter Tryz.func114, Tryz.ntmps114
 go_wp2
 go_loopw [8] (fun i wr => ∃ k : Nat, k ≤ 5 ∧ i = .int .i64 k ∧ nameIn s.data.toList refNames = nameIn s.data.toList (refNames.drop k) ∧ Below w.heap.size w wr) (fun i _ => 5 - (intOf i).toNat)
 case atStart => exact ⟨0, by omega, rfl, rfl, Below.refl _ _⟩
 case round =>
  obtain ⟨k, hk, rfl, hf, hbel⟩ := hrel
  have hz := hbel.size
  by_cases hlt : k < 5
  ·have hT' := hT k hlt
   have c1 : wr.cell? ⟨b, o + k * 2, none⟩ = some (.string (nmS k)) := (hbel.cell hlt0).trans hT'.1
   have c2 : wr.cell? ⟨b, o + k * 2 + 1, none⟩ = some (.int .i32 (nmR k)) := (hbel.cell hlt0).trans hT'.2
   have hnd := names_drop ⟨k, hlt⟩
   have hns := nmS_size ⟨k, hlt⟩
   simp only at hnd hns
   rw [hnd, nameIn] at hf
   have hb1 : nmS k = oB (refNames.getD k ([], 0)).1 := rfl
   have hb2 : nmR k = (refNames.getD k ([], 0)).2 := rfl
   have hlk : (k : Int) < 5 := by omega
   have hbb : b < wr.heap.size := by omega
   clear hT hT' h0 hnd
   rcases hp : (refNames.getD k ([], 0)).1.isPrefixOf s.data.toList with _ | _
   ·rw [if_neg (by rw [hp]; decide)] at hf
    have cP : ∀ wx, _ := fun wx => esc_HasPrefix s (nmS k) false wx (by rw [hb1, oBl]; exact hp)
    have HF := Lib.hid hf
    clear hf hp hb1 hb2 hns
    generalize nmS k = p at *
    generalize nmR k = r at *
    go_wp2_with fail
    refine (cP _).mono ?_
    rintro e w' ⟨rfl, rfl⟩
    go_wp2
    go_roundw
    case rel => exact ⟨k + 1, by omega, by go_num, HF.out, by (repeat (first | exact hbel | apply Below.drew | (refine Below.setCell ?_ (by first | omega | (simp; done) | (simp; omega)) _) | (refine Below.alloc ?_ (by first | omega | (simp; done) | (simp; omega)) _)))⟩
    case measure => simp [intOf]; omega
   ·rw [if_pos hp] at hf
    have cP : ∀ wx, _ := fun wx => esc_HasPrefix s (nmS k) true wx (by rw [hb1, oBl]; exact hp)
    rw [← hb2, ← hns] at hf
    have HF := Lib.hid hf
    clear hf hp hb1 hb2 hns
    generalize nmS k = p at *
    generalize nmR k = r at *
    go_wp2_with fail
    refine (cP _).mono ?_
    rintro e w' ⟨rfl, rfl⟩
    go_wp2
    go_quiet (fail)
    go_wp2
    go_ret2
    exact ⟨retN HF.out, below_drewN (hbel.alloc hz _) _⟩
  ·obtain rfl : k = 5 := by omega
   have HF := Lib.hid hf
   clear hf hT h0
   go_wp2
   go_ret2
   exact ⟨retN HF.out, hbel⟩
theorem retNI {a a' k : Int} {n n' : Nat} (h : (a', n') = (a, n)) (hk : (n : Int) = k) : Ending.returned (.tuple #[.int .i32 a, .int .i64 k]) = .returned (.tuple #[.int .i32 a', .int .i64 (n' : Int)]) := by subst hk; cases h; rfl
theorem tailC_def (base : Int) (k : Nat) (m : List UInt8) : tailC base k m = if cntC base m ≠ 0 ∧ (cntC base m < m.length ∧ m.getD (cntC base m) 0 = 59) ∧ isCharB (numC base m 0) = true then (numC base m 0, k + cntC base m + 1) else (0, 0) := rfl
theorem semi_pre (m : List UInt8) (c : Nat) : ([59] : List UInt8).isPrefixOf (m.drop c) = decide (c < m.length ∧ m.getD c 0 = 59) := by
 rcases Nat.lt_or_ge c m.length with h | h
 ·rw [List.drop_eq_getElem_cons h, List.isPrefixOf_cons_cons, List.getD_eq_getElem?_getD, List.getElem?_eq_getElem h]
  by_cases e : m[c] = 59
  ·rw [e]; simp [h]
  ·rw [show ((59 : UInt8) == m[c]) = false by simpa using fun q => e q.symm]
   symm
   rw [Bool.false_and, decide_eq_false_iff_not]
   exact fun q => e q.2
 ·rw [List.drop_eq_nil_of_le h]
  symm
  exact decide_eq_false (fun q => by omega)
set_option maxHeartbeats 16000000 in
theorem esc_numeric (s : ByteArray) (w : World) (hs : s.size ≤ 1000000) :
  Calls Tryz.prog 115 #[.string s] w fun e w' => e = .returned (.tuple #[.int .i32 (numericC s.data.toList).1, .int .i64 ((numericC s.data.toList).2 : Nat)]) ∧ Below w.heap.size w w' := by
 have hsl : s.data.toList.length = s.size := by simp
 by_cases p3 : ([38, 35, 120] : List UInt8).isPrefixOf s.data.toList = true
 ·have HN := Lib.hid (show numericC s.data.toList = tailC 16 3 (s.data.toList.drop 3) by unfold numericC; rw [if_pos p3])
  have cH : ∀ wx, _ := fun wx => esc_HasPrefix s ⟨#[38, 35, 120]⟩ true wx p3
  have cC : ∀ wx, _ := fun wx => esc_CutPrefix_yes s ⟨#[38, 35, 120]⟩ wx p3
  rw [show (⟨#[38, 35, 120]⟩ : ByteArray).data.toList.length = 3 from rfl] at cC
  obtain ⟨m, hm⟩ : ∃ m, m = s.data.toList.drop 3 := ⟨_, rfl⟩
  rw [← hm] at HN cC
  have hml : m.length ≤ s.size := by rw [hm, List.length_drop]; omega
  have hms : (oB m).size = m.length := oBz m
  have cN : ∀ wx, _ := fun wx => esc_number (oB m) 16 wx (by omega) (.inr rfl)
  rw [oBl] at cN
  have hcl := cntC_le 16 m
  have hnb := numC_bd 16 (by omega) m 0 (by omega) (by omega)
  have hsf : ∀ wx, _ := fun wx => slice_from (oB m) (cntC 16 m : Nat) (by omega) (by omega) wx
  rw [Int.toNat_natCast, eext, oBl, hms, List.take_of_length_le (by rw [List.length_drop]; omega)] at hsf
  have hsp := semi_pre m (cntC 16 m)
  have HT := Lib.hid (tailC_def 16 3 m)
  have cI : ∀ wx, _ := fun wx => text_IsChar (numC 16 m 0) wx
  have hm1 : (oB m).size ≤ 1000000 := by omega
  have hc1 : ((cntC 16 m : Nat) : Int) ≤ 1000000 := by omega
  rw [← HN.out] at HT
  clear hsl hm hml p3 HN
  generalize numC 16 m 0 = n at *
  generalize cntC 16 m = c at *
  have HSP := Lib.hid hsp
  clear hsp
  obtain ⟨hn0, hn1⟩ := hnb
  rcases Nat.eq_zero_or_pos c with hc | hc
  ·subst hc
   have HR := Lib.hid (HT.out.trans (if_neg (fun h => h.1 rfl)))
   clear HT cI hms
   generalize oB m = M at *
   go_enter Tryz.func115, Tryz.ntmps115; (go_wp2_with fail); (refine (cH _).mono ?_); (rintro e w' ⟨rfl, rfl⟩); (go_wp2_with fail); (refine (cC _).mono ?_); (rintro e w' ⟨rfl, rfl⟩); (go_wp2_with fail); (refine (cN _).mono ?_); (rintro e w1 ⟨rfl, b1⟩)
   go_wp2
   go_ret2
   exact ⟨retN HR.out, b1⟩
  ·have hcz : ((c : Int) == 0) = false := by simp; omega
   rcases hq : decide (c < m.length ∧ m.getD c 0 = 59) with _ | _
   ·have cS : ∀ wx, _ := fun wx => esc_HasPrefix (oB (m.drop c)) ⟨#[59]⟩ false wx (by rw [oBl]; exact HSP.out.trans hq)
    have HR := Lib.hid (HT.out.trans (if_neg (fun h => of_decide_eq_false hq h.2.1)))
    clear HT cI hms hq
    generalize oB (m.drop c) = Q at *
    generalize oB m = M at *
    go_enter Tryz.func115, Tryz.ntmps115; (go_wp2_with fail); (refine (cH _).mono ?_); (rintro e w' ⟨rfl, rfl⟩); (go_wp2_with fail); (refine (cC _).mono ?_); (rintro e w' ⟨rfl, rfl⟩); (go_wp2_with fail); (refine (cN _).mono ?_); (rintro e w1 ⟨rfl, b1⟩)
    (go_wp2_with fail); (refine (cS _).mono ?_); (rintro e w' ⟨rfl, rfl⟩)
    go_wp2
    go_ret2
    exact ⟨retN HR.out, b1⟩
   ·have cS : ∀ wx, _ := fun wx => esc_HasPrefix (oB (m.drop c)) ⟨#[59]⟩ true wx (by rw [oBl]; exact HSP.out.trans hq)
    rcases hi : isCharB n with _ | _
    ·have HR := Lib.hid (HT.out.trans (if_neg (fun h => by rw [hi] at h; exact absurd h.2.2 (by decide))))
     rw [hi] at cI
     clear HT hms hq hi
     generalize oB (m.drop c) = Q at *
     generalize oB m = M at *
     go_enter Tryz.func115, Tryz.ntmps115; (go_wp2_with fail); (refine (cH _).mono ?_); (rintro e w' ⟨rfl, rfl⟩); (go_wp2_with fail); (refine (cC _).mono ?_); (rintro e w' ⟨rfl, rfl⟩); (go_wp2_with fail); (refine (cN _).mono ?_); (rintro e w1 ⟨rfl, b1⟩)
     (go_wp2_with fail); (refine (cS _).mono ?_); (rintro e w' ⟨rfl, rfl⟩)
     (go_wp2_with fail); (refine (cI _).mono ?_); (rintro e w' ⟨rfl, rfl⟩)
     go_wp2
     go_ret2
     exact ⟨retN HR.out, b1⟩
    ·have HR := Lib.hid (HT.out.trans (if_pos ⟨by omega, of_decide_eq_true hq, hi⟩))
     rw [hi] at cI
     clear HT hms hq hi
     generalize oB (m.drop c) = Q at *
     generalize oB m = M at *
     go_enter Tryz.func115, Tryz.ntmps115; (go_wp2_with fail); (refine (cH _).mono ?_); (rintro e w' ⟨rfl, rfl⟩); (go_wp2_with fail); (refine (cC _).mono ?_); (rintro e w' ⟨rfl, rfl⟩); (go_wp2_with fail); (refine (cN _).mono ?_); (rintro e w1 ⟨rfl, b1⟩)
     (go_wp2_with fail); (refine (cS _).mono ?_); (rintro e w' ⟨rfl, rfl⟩)
     (go_wp2_with fail); (refine (cI _).mono ?_); (rintro e w' ⟨rfl, rfl⟩)
     go_wp2
     go_ret2
     exact ⟨retNI HR.out (by omega), b1⟩
 ·have p3f : ([38, 35, 120] : List UInt8).isPrefixOf s.data.toList = false := Bool.eq_false_iff.2 p3
  have cH : ∀ wx, _ := fun wx => esc_HasPrefix s ⟨#[38, 35, 120]⟩ false wx p3f
  by_cases p2 : ([38, 35] : List UInt8).isPrefixOf s.data.toList = true
  ·have HN := Lib.hid (show numericC s.data.toList = tailC 10 2 (s.data.toList.drop 2) by unfold numericC; rw [if_neg p3, if_pos p2])
   have cC : ∀ wx, _ := fun wx => esc_CutPrefix_yes s ⟨#[38, 35]⟩ wx p2
   rw [show (⟨#[38, 35]⟩ : ByteArray).data.toList.length = 2 from rfl] at cC
   obtain ⟨m, hm⟩ : ∃ m, m = s.data.toList.drop 2 := ⟨_, rfl⟩
   rw [← hm] at HN cC
   have hml : m.length ≤ s.size := by rw [hm, List.length_drop]; omega
   have hms : (oB m).size = m.length := oBz m
   have cN : ∀ wx, _ := fun wx => esc_number (oB m) 10 wx (by omega) (.inl rfl)
   rw [oBl] at cN
   have hcl := cntC_le 10 m
   have hnb := numC_bd 10 (by omega) m 0 (by omega) (by omega)
   have hsf : ∀ wx, _ := fun wx => slice_from (oB m) (cntC 10 m : Nat) (by omega) (by omega) wx
   rw [Int.toNat_natCast, eext, oBl, hms, List.take_of_length_le (by rw [List.length_drop]; omega)] at hsf
   have hsp := semi_pre m (cntC 10 m)
   have HT := Lib.hid (tailC_def 10 2 m)
   have cI : ∀ wx, _ := fun wx => text_IsChar (numC 10 m 0) wx
   have hm1 : (oB m).size ≤ 1000000 := by omega
   have hc1 : ((cntC 10 m : Nat) : Int) ≤ 1000000 := by omega
   rw [← HN.out] at HT
   clear hsl hm hml p3 HN
   generalize numC 10 m 0 = n at *
   generalize cntC 10 m = c at *
   have HSP := Lib.hid hsp
   clear hsp
   obtain ⟨hn0, hn1⟩ := hnb
   rcases Nat.eq_zero_or_pos c with hc | hc
   ·subst hc
    have HR := Lib.hid (HT.out.trans (if_neg (fun h => h.1 rfl)))
    clear HT cI hms
    generalize oB m = M at *
    go_enter Tryz.func115, Tryz.ntmps115; (go_wp2_with fail); (refine (cH _).mono ?_); (rintro e w' ⟨rfl, rfl⟩); (go_wp2_with fail); (refine (cC _).mono ?_); (rintro e w' ⟨rfl, rfl⟩); (go_wp2_with fail); (refine (cN _).mono ?_); (rintro e w1 ⟨rfl, b1⟩)
    go_wp2
    go_ret2
    exact ⟨retN HR.out, b1⟩
   ·have hcz : ((c : Int) == 0) = false := by simp; omega
    rcases hq : decide (c < m.length ∧ m.getD c 0 = 59) with _ | _
    ·have cS : ∀ wx, _ := fun wx => esc_HasPrefix (oB (m.drop c)) ⟨#[59]⟩ false wx (by rw [oBl]; exact HSP.out.trans hq)
     have HR := Lib.hid (HT.out.trans (if_neg (fun h => of_decide_eq_false hq h.2.1)))
     clear HT cI hms hq
     generalize oB (m.drop c) = Q at *
     generalize oB m = M at *
     go_enter Tryz.func115, Tryz.ntmps115; (go_wp2_with fail); (refine (cH _).mono ?_); (rintro e w' ⟨rfl, rfl⟩); (go_wp2_with fail); (refine (cC _).mono ?_); (rintro e w' ⟨rfl, rfl⟩); (go_wp2_with fail); (refine (cN _).mono ?_); (rintro e w1 ⟨rfl, b1⟩)
     (go_wp2_with fail); (refine (cS _).mono ?_); (rintro e w' ⟨rfl, rfl⟩)
     go_wp2
     go_ret2
     exact ⟨retN HR.out, b1⟩
    ·have cS : ∀ wx, _ := fun wx => esc_HasPrefix (oB (m.drop c)) ⟨#[59]⟩ true wx (by rw [oBl]; exact HSP.out.trans hq)
     rcases hi : isCharB n with _ | _
     ·have HR := Lib.hid (HT.out.trans (if_neg (fun h => by rw [hi] at h; exact absurd h.2.2 (by decide))))
      rw [hi] at cI
      clear HT hms hq hi
      generalize oB (m.drop c) = Q at *
      generalize oB m = M at *
      go_enter Tryz.func115, Tryz.ntmps115; (go_wp2_with fail); (refine (cH _).mono ?_); (rintro e w' ⟨rfl, rfl⟩); (go_wp2_with fail); (refine (cC _).mono ?_); (rintro e w' ⟨rfl, rfl⟩); (go_wp2_with fail); (refine (cN _).mono ?_); (rintro e w1 ⟨rfl, b1⟩)
      (go_wp2_with fail); (refine (cS _).mono ?_); (rintro e w' ⟨rfl, rfl⟩)
      (go_wp2_with fail); (refine (cI _).mono ?_); (rintro e w' ⟨rfl, rfl⟩)
      go_wp2
      go_ret2
      exact ⟨retN HR.out, b1⟩
     ·have HR := Lib.hid (HT.out.trans (if_pos ⟨by omega, of_decide_eq_true hq, hi⟩))
      rw [hi] at cI
      clear HT hms hq hi
      generalize oB (m.drop c) = Q at *
      generalize oB m = M at *
      go_enter Tryz.func115, Tryz.ntmps115; (go_wp2_with fail); (refine (cH _).mono ?_); (rintro e w' ⟨rfl, rfl⟩); (go_wp2_with fail); (refine (cC _).mono ?_); (rintro e w' ⟨rfl, rfl⟩); (go_wp2_with fail); (refine (cN _).mono ?_); (rintro e w1 ⟨rfl, b1⟩)
      (go_wp2_with fail); (refine (cS _).mono ?_); (rintro e w' ⟨rfl, rfl⟩)
      (go_wp2_with fail); (refine (cI _).mono ?_); (rintro e w' ⟨rfl, rfl⟩)
      go_wp2
      go_ret2
      exact ⟨retNI HR.out (by omega), b1⟩
  ·have p2f : ([38, 35] : List UInt8).isPrefixOf s.data.toList = false := Bool.eq_false_iff.2 p2
   have HN := Lib.hid (show numericC s.data.toList = (0, 0) by unfold numericC; rw [if_neg p3, if_neg p2])
   have cC : ∀ wx, _ := fun wx => esc_CutPrefix_no s ⟨#[38, 35]⟩ wx p2f
   clear p3 p3f p2 p2f hsl
   go_enter Tryz.func115, Tryz.ntmps115
   (go_wp2_with fail); (refine (cH _).mono ?_); (rintro e w' ⟨rfl, rfl⟩)
   (go_wp2_with fail); (refine (cC _).mono ?_); (rintro e w' ⟨rfl, rfl⟩)
   go_wp2
   go_ret2
   exact ⟨retN HN.out, Below.refl _ _⟩
end
end Go.Proofs.YtppmoeidgefkpaaGreatDoor
