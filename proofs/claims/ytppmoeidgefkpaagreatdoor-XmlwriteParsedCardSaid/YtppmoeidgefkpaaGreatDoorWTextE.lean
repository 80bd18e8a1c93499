/- Packed from the texts TextE. -/
import Derived.Test.YtppmoeidgefkpaaGreatDoorWKit
import Derived.Test.YtppmoeidgefkpaaGreatDoorWTextA
import Derived.Deep.RegionWith
set_option maxRecDepth 100000
namespace Go.Proofs.YtppmoeidgefkpaaGreatDoor
section
open Go.RowKit
def sp (c : UInt8) : Bool := isSpaceB (c.toNat : Int)
def colGo : Bool → Bool → List UInt8 → List UInt8
 | _, _, [] => []
 | st, pv, c :: r => if sp c then colGo st true r else if st && pv then 32 :: c :: colGo true false r else c :: colGo true false r
def collapse (l : List UInt8) : List UInt8 := colGo false false l
def pvAt (l : List UInt8) (k : Nat) : Bool := match k with | 0 => false | j + 1 => sp (l.getD j 0)
theorem pvAt_succ (l : List UInt8) (j : Nat) : pvAt l (j + 1) = sp (l.getD j 0) := rfl
theorem drop_at (l : List UInt8) (k : Nat) (h : k < l.length) : l.drop k = l[k] :: l.drop (k + 1) := List.drop_eq_getElem_cons h
theorem getD_at (l : List UInt8) (k : Nat) (h : k < l.length) : l.getD k 0 = l[k] := by simp [List.getD, h]
def ColRel (l acc : List UInt8) (k : Nat) : Prop := collapse l = acc ++ colGo (!acc.isEmpty) (pvAt l k) (l.drop k) ∧ acc.length ≤ k ∧ (acc ≠ [] → pvAt l k = true → acc.length + 1 ≤ k)
theorem ColRel.start (l : List UInt8) : ColRel l [] 0 := ⟨by simp [collapse, pvAt], by simp, fun h => absurd rfl h⟩
theorem ColRel.space {l acc : List UInt8} {k : Nat} (h : ColRel l acc k) (hk : k < l.length) (hs : sp l[k] = true) : ColRel l acc (k + 1) := by
 obtain ⟨h1, h2, h3⟩ := h
 refine ⟨?_, by omega, fun _ _ => by omega⟩
 rw [h1, drop_at l k hk, colGo, if_pos hs, pvAt_succ, getD_at l k hk, hs]
theorem ColRel.one {l acc : List UInt8} {k : Nat} (h : ColRel l acc k) (hk : k < l.length) (hs : sp l[k] = false) (hn : (!acc.isEmpty && pvAt l k) = false) : ColRel l (acc ++ [l[k]]) (k + 1) := by
 obtain ⟨h1, h2, h3⟩ := h
 refine ⟨?_, by simp; omega, fun _ hp => ?_⟩
 ·rw [h1, drop_at l k hk, colGo, if_neg (by simp [hs]), if_neg (by simp [hn]), pvAt_succ, getD_at l k hk, hs]
  cases acc <;> simp
 ·rw [pvAt_succ, getD_at l k hk, hs] at hp; cases hp
theorem ColRel.two {l acc : List UInt8} {k : Nat} (h : ColRel l acc k) (hk : k < l.length) (hs : sp l[k] = false) (hn : (!acc.isEmpty && pvAt l k) = true) : ColRel l (acc ++ [32] ++ [l[k]]) (k + 1) := by
 obtain ⟨h1, h2, h3⟩ := h
 rw [Bool.and_eq_true] at hn
 have h4 := h3 (by intro e; rw [e] at hn; simp at hn) hn.2
 refine ⟨?_, by simp; omega, fun _ hp => ?_⟩
 ·rw [h1, drop_at l k hk, colGo, if_neg (by simp [hs]), if_pos (by simp [hn]), pvAt_succ, getD_at l k hk, hs]
  cases acc <;> simp
 ·rw [pvAt_succ, getD_at l k hk, hs] at hp; cases hp
theorem ColRel.done {l acc : List UInt8} {k : Nat} (h : ColRel l acc k) (hk : l.length ≤ k) : acc = collapse l := by
 rw [h.1, List.drop_eq_nil_of_le hk, colGo, List.append_nil]
theorem info_u8 : (Tryz.prog.info? 5).map (fun i => (i.zero, i.size, i.bytes)) = some (some (.int .u8 0), 1, 1) := by kernel_rfl
set_option maxHeartbeats 2000000 in
theorem text_Collapse (s : ByteArray) (w : World) (hs : s.size ≤ 70368744177664) :
  Calls Tryz.prog 70 #[.string s] w fun e w' => e = .returned (.string (oB (collapse s.data.toList))) ∧ Below w.heap.size w w' := by
 obtain ⟨i0, hi, hz0, hz1, hz2⟩ := info_parts info_u8
 have hsl : s.data.toList.length = s.size := by simp
 have HSL := Lib.hid hsl
 clear hsl
 go_enter Tryz.func70, Tryz.ntmps70
 go_wp2_with (refine wpList_make_own _ rfl _ _ 44 rfl w.heap.size 5 i0 (.int .u8 0) 1 Tryz.underlying44 hi hz0 hz1 .i64 .i64 s.size s.size rfl rfl rfl (by rw [hz2]; omega) (by unfold maxLen; omega) (Nat.le_refl _) ?_; intro w1 hown hgr)
 have hbel1 : Below w.heap.size w w1 := (Below.refl _ _).grown hgr (Nat.le_refl _) (fun k h => by cases h)
 clear hgr
 go_loopw [3, 10] (fun v i wr => ∃ (k : Nat) (acc : List UInt8) (A : Option Addr) (c : Nat), k ≤ s.size ∧ i = .int .i64 k ∧ v = .slice A acc.length c ∧ wr.ownsRow w.heap.size 5 1 (.slice A acc.length c) acc.length (u8s acc) ∧ ColRel s.data.toList acc k ∧ Below w.heap.size w wr) (fun _ i _ => s.size - (intOf i).toNat)
 case atStart => exact ⟨0, [], _, s.size, by omega, rfl, rfl, hown, ColRel.start _, hbel1⟩
 case round =>
  obtain ⟨k, acc, A, c, hk, rfl, rfl, hown, hrel, hbel⟩ := hrel
  have hz := hbel.size
  by_cases hlt : k < s.size
  ·obtain ⟨x, hx⟩ : ∃ x, s[k]'hlt = x := ⟨_, rfl⟩
   have hxl : s.data.toList[k]'(by simpa using hlt) = x := by rw [← hx]; simp [ByteArray.getElem_eq_getElem_data]
   have hc1 := text_IsSpace (x.toNat : Int)
   have hle : acc.length ≤ k := hrel.2.1
   rcases hsp : sp x with _ | _
   ·have hc1 : ∀ wx, Calls Tryz.prog 95 #[.int .u8 (x.toNat : Int)] wx fun e w' => e = .returned (.bool false) ∧ wx = w' := fun wx => by
     have := hc1 wx; rw [show isSpaceB (x.toNat : Int) = false from hsp] at this; exact this
    have H1 : ColRel s.data.toList acc k ∧ sp (s.data.toList[k]'(by simpa using hlt)) = false := ⟨hrel, by rw [hxl]; exact hsp⟩
    have HX := Lib.hid hxl
    clear hxl hsp hrel
    by_cases hac : acc = []
    ·have hl0 : acc.length ≤ 0 := by rw [hac]; exact Nat.le_refl _
     have hl0z : ¬ (0 : Int) < (acc.length : Int) := by omega
     have hemp : acc.isEmpty = true := by rw [hac]; rfl
     have R := H1.1.one (by simpa using hlt) H1.2 (by rw [hemp]; rfl)
     rw [HX.out] at R
     clear H1 hac hemp
     go_wp2_with (first | (go_at_call 95; refine (hc1 _).mono ?_; rintro e w' ⟨rfl, rfl⟩) | (at_builtin; refine wpList_append_own _ rfl (.tmp 30) (.tmp 34) 44 rfl w.heap.size 5 i0 (.int .u8 0) 1 1 Tryz.underlying44 hi hz0 hz1 hz2 rfl (by decide) (.slice A acc.length c) acc.length (u8s acc) rfl (hown.alloc _) ⟨wr.heap.size, 0, none⟩ 1 1 [.int .u8 (x.toNat : Int)] rfl rfl (cell_one_new _ _ _) (by intro u hu; simp at hu; subst hu; rfl) (by unfold maxLen; omega) (by omega) (by simp; omega) ?_; intro v' w2 hown' hgr' _))
     obtain ⟨A', c', hv', hown2⟩ := own_push hown'
     have hb2 : Below w.heap.size w w2 := (hbel.alloc hz _).grown hgr' (by simp; omega) (fun g hg => (hown.lt g hg).1)
     go_roundw
     case rel => exact ⟨k + 1, _, A', c', by omega, by go_num, hv', hown2, R, hb2⟩
     case measure => simp [intOf]; omega
    ·have hpos : 0 < acc.length := List.length_pos_iff.2 hac
     have hposz : (0 : Int) < (acc.length : Int) := by omega
     have hemp : acc.isEmpty = false := by cases acc with | nil => exact absurd rfl hac | cons _ _ => rfl
     obtain ⟨j, rfl⟩ : ∃ j, k = j + 1 := ⟨k - 1, by omega⟩
     have hjs : j < s.size := by omega
     obtain ⟨y, hy⟩ : ∃ y, s[j]'hjs = y := ⟨_, rfl⟩
     have hpv : pvAt s.data.toList (j + 1) = sp y := by rw [pvAt_succ, getD_at _ _ (by simpa using hjs), ← hy]; simp [ByteArray.getElem_eq_getElem_data]
     rcases hsy : sp y with _ | _
     ·have hc2 : ∀ wx, Calls Tryz.prog 95 #[.int .u8 (y.toNat : Int)] wx fun e w' => e = .returned (.bool false) ∧ wx = w' := fun wx => by
       have := text_IsSpace (y.toNat : Int) wx; rw [show isSpaceB (y.toNat : Int) = false from hsy] at this; exact this
      have R := H1.1.one (by simpa using hlt) H1.2 (by rw [hemp, hpv, hsy]; rfl)
      rw [HX.out] at R
      clear H1 hac hemp hpv hsy
      go_wp2_with (first | (go_at_call_of 95 (Value.int .u8 (x.toNat : Int)); refine (hc1 _).mono ?_; rintro e w' ⟨rfl, rfl⟩) | (go_at_call_of 95 (Value.int .u8 (y.toNat : Int)); refine (hc2 _).mono ?_; rintro e w' ⟨rfl, rfl⟩) | (at_builtin; refine wpList_append_own _ rfl (.tmp 30) (.tmp 34) 44 rfl w.heap.size 5 i0 (.int .u8 0) 1 1 Tryz.underlying44 hi hz0 hz1 hz2 rfl (by decide) (.slice A acc.length c) acc.length (u8s acc) rfl (hown.alloc _) ⟨wr.heap.size, 0, none⟩ 1 1 [.int .u8 (x.toNat : Int)] rfl rfl (cell_one_new _ _ _) (by intro u hu; simp at hu; subst hu; rfl) (by unfold maxLen; omega) (by omega) (by simp; omega) ?_; intro v' w2 hown' hgr' _))
      obtain ⟨A', c', hv', hown2⟩ := own_push hown'
      have hb2 : Below w.heap.size w w2 := (hbel.alloc hz _).grown hgr' (by simp; omega) (fun g hg => (hown.lt g hg).1)
      go_roundw
      case rel => exact ⟨j + 1 + 1, _, A', c', by omega, by go_num, hv', hown2, R, hb2⟩
      case measure => simp [intOf]; omega
     ·have hc2 : ∀ wx, Calls Tryz.prog 95 #[.int .u8 (y.toNat : Int)] wx fun e w' => e = .returned (.bool true) ∧ wx = w' := fun wx => by
       have := text_IsSpace (y.toNat : Int) wx; rw [show isSpaceB (y.toNat : Int) = true from hsy] at this; exact this
      have R := H1.1.two (by simpa using hlt) H1.2 (by rw [hemp, hpv, hsy]; rfl)
      have hroom := R.2.1
      rw [HX.out] at R
      simp only [List.length_append, List.length_cons, List.length_nil] at hroom
      clear H1 hac hemp hpv hsy
      go_wp2_with (first | (go_at_call_of 95 (Value.int .u8 (x.toNat : Int)); refine (hc1 _).mono ?_; rintro e w' ⟨rfl, rfl⟩) | (go_at_call_of 95 (Value.int .u8 (y.toNat : Int)); refine (hc2 _).mono ?_; rintro e w' ⟨rfl, rfl⟩) | (at_builtin; refine wpList_append_own _ rfl (.tmp 27) (.tmp 28) 44 rfl w.heap.size 5 i0 (.int .u8 0) 1 1 Tryz.underlying44 hi hz0 hz1 hz2 rfl (by decide) (.slice A acc.length c) acc.length (u8s acc) rfl (hown.alloc _) ⟨wr.heap.size, 0, none⟩ 1 1 [.int .u8 32] rfl rfl (cell_one_new _ _ _) (by intro u hu; simp at hu; subst hu; rfl) (by unfold maxLen; omega) (by omega) (by simp; omega) ?_; intro v1 w1' hown1 hgr1 _; obtain ⟨A1, c1, hv1, hownB⟩ := own_push (x := 32) hown1; rw [List.length_append, List.length_cons, List.length_nil, Nat.zero_add] at hv1 hownB; subst hv1; have hbB : Below w.heap.size w w1' := (hbel.alloc hz _).grown hgr1 (by simp; omega) (fun g hg => (hown.lt g hg).1); have hzB := hbB.size) | (at_builtin; refine wpList_append_own _ rfl (.tmp 30) (.tmp 34) 44 rfl w.heap.size 5 i0 (.int .u8 0) 1 1 Tryz.underlying44 hi hz0 hz1 hz2 rfl (by decide) (.slice A1 (acc.length + 1) c1) (acc.length + 1) (u8s (acc ++ [32])) rfl (hownB.alloc _) ⟨w1'.heap.size, 0, none⟩ 1 1 [.int .u8 (x.toNat : Int)] rfl rfl (cell_one_new _ _ _) (by intro u hu; simp at hu; subst hu; rfl) (by unfold maxLen; omega) (by omega) (by simp; omega) ?_; intro v' w2 hown' hgr' _))
      obtain ⟨A', c', hv', hown2⟩ := own_push (acc := acc ++ [32]) (by rw [List.length_append, List.length_cons, List.length_nil, Nat.zero_add]; exact hown')
      have hb2 : Below w.heap.size w w2 := (hbB.alloc hzB _).grown hgr' (by simp; omega) (fun g hg => (hownB.lt g hg).1)
      go_roundw
      case rel => exact ⟨j + 1 + 1, _, A', c', by omega, by go_num, hv', hown2, R, hb2⟩
      case measure => simp [intOf]; omega
   ·have hc1 : ∀ wx, Calls Tryz.prog 95 #[.int .u8 (x.toNat : Int)] wx fun e w' => e = .returned (.bool true) ∧ wx = w' := fun wx => by
     have := hc1 wx; rw [show isSpaceB (x.toNat : Int) = true from hsp] at this; exact this
    have H1 := hrel.space (by simpa using hlt) (by rw [hxl]; exact hsp)
    clear hxl hsp hrel
    go_wp2_with (go_at_call 95; refine (hc1 _).mono ?_; rintro e w' ⟨rfl, rfl⟩)
    go_roundw
    case rel => exact ⟨k + 1, acc, A, c, by omega, by go_num, rfl, hown, H1, hbel⟩
    case measure => simp [intOf]; omega
  ·have H1 := hrel.done (by simp; omega)
   have hcv : ∀ dst, _ := fun dst hd => convert_own (dst := dst) (P := Tryz.prog) Tryz.underlying44 Tryz.underlying5 hd hown
   have hcv' := hcv 9 Tryz.underlying9
   clear hcv hown hrel
   subst H1
   go_wp2
   go_ret
   exact ⟨rfl, hbel⟩
end
end Go.Proofs.YtppmoeidgefkpaaGreatDoor
