/- Packed from the texts TextG TextH TextV MeV. -/
import Derived.Test.YtbfalppeifkjdaaGreatDoorVkA
import Derived.Test.YtbfalppeifkjdaaGreatDoorVkB
import Derived.Shelf.Unicode.DecodeSlow
section
namespace Go.Proofs.YtbfalppeifkjdaaGreatDoor
open Go.RowKit
set_option maxRecDepth 100000 in
set_option maxHeartbeats 4000000 in
theorem ref_Collapse (s : ByteArray) (w : World) (hs : s.size ≤ 70368744177664) :
    Calls Tryz.prog 30 #[.string s] w fun e w' => e = .returned (.string (ofBytes (collapse s.data.toList))) ∧ Below w.heap.size w w' := by
  obtain ⟨i0, hi, hz0, hz1, hz2⟩ := info_parts info_u8
  go_enter Tryz.func30, Tryz.ntmps30
  go_wp2
  go_loopw [3, 4] (fun v i wr => ∃ (k : Nat) (acc : List UInt8) (A : Option Addr) (c : Nat), k ≤ s.size ∧ i = .int .i64 k ∧ v = .slice A acc.length c ∧ wr.ownsRow w.heap.size 5 1 (.slice A acc.length c) acc.length (u8s acc) ∧ ColRel s.data.toList acc k ∧ Below w.heap.size w wr) (fun _ i _ => s.size - (intOf i).toNat)
  case atStart => exact ⟨0, [], none, 0, by omega, rfl, rfl, World.ownsRow_nil _ _ _ _, ColRel.start _, Below.refl _ _⟩
  case round =>
    obtain ⟨k, acc, A, c, hk, rfl, rfl, hown, hrel, hbel⟩ := hrel
    have hz := hbel.size
    by_cases hlt : k < s.size
    · obtain ⟨x, hx⟩ : ∃ x, s[k]'hlt = x := ⟨_, rfl⟩
      have hxl : s.data.toList[k]'(by simpa using hlt) = x := by rw [← hx]; simp [ByteArray.getElem_eq_getElem_data]
      have hle : acc.length ≤ k := hrel.2.1
      rcases hsp : sp x with _ | _
      · have HC1 := hsp
        have hc1 : ∀ wx, Calls Tryz.prog 50 #[.int .u8 (x.toNat : Int)] wx fun e w' => e = .returned (.bool false) ∧ wx = w' := fun wx => by
          have := ref_IsSpace (x.toNat : Int) wx; rw [show isSpaceB (x.toNat : Int) = false from HC1] at this; exact this
        have H1 : ColRel s.data.toList acc k ∧ sp (s.data.toList[k]'(by simpa using hlt)) = false := ⟨hrel, by rw [hxl]; exact hsp⟩
        have HX := Lib.hid hxl
        clear hxl hsp HC1 hrel
        rcases k with _ | j
        · have hemp : acc.isEmpty = true := by cases acc with | nil => rfl | cons _ _ => simp at hle
          have R := H1.1.one (by simpa using hlt) H1.2 (by rw [hemp]; rfl)
          rw [HX.out] at R
          clear H1 hemp
          go_wp2_with (first | (go_at_call_of 50 (Value.int .u8 (x.toNat : Int)); refine (hc1 _).mono ?_; rintro e w' ⟨rfl, rfl⟩) | (at_builtin; refine wpList_append_own _ rfl (.tmp 33) (.tmp 37) 81 rfl w.heap.size 5 i0 (.int .u8 0) 1 1 Tryz.underlying81 hi hz0 hz1 hz2 rfl (by decide) (.slice A acc.length c) acc.length (u8s acc) rfl (hown.alloc _) ⟨wr.heap.size, 0, none⟩ 1 1 [.int .u8 (x.toNat : Int)] rfl rfl (cell_one_new _ _ _) (by intro u hu; simp at hu; subst hu; rfl) (by unfold maxLen; omega) (by omega) (by simp; omega) ?_; intro v' w2 hown' hgr' _))
          obtain ⟨A', c', hv', hown2⟩ := own_push hown'
          have hb2 : Below w.heap.size w w2 := (hbel.alloc hz _).grown hgr' (by simp; omega) (fun g hg => (hown.lt g hg).1)
          go_roundw
          case rel => exact ⟨0 + 1, _, A', c', by omega, by go_num, hv', hown2, R, hb2⟩
          case measure => simp [intOf]; omega
        · have hjs : j < s.size := by omega
          obtain ⟨y, hy⟩ : ∃ y, s[j]'hjs = y := ⟨_, rfl⟩
          have hpv : pvAt s.data.toList (j + 1) = sp y := by rw [pvAt_succ, getD_at _ _ (by simpa using hjs), ← hy]; simp [ByteArray.getElem_eq_getElem_data]
          rcases hsy : sp y with _ | _
          · have HC2 := hsy
            have hc2 : ∀ wx, Calls Tryz.prog 50 #[.int .u8 (y.toNat : Int)] wx fun e w' => e = .returned (.bool false) ∧ wx = w' := fun wx => by
              have := ref_IsSpace (y.toNat : Int) wx; rw [show isSpaceB (y.toNat : Int) = false from HC2] at this; exact this
            have R := H1.1.one (by simpa using hlt) H1.2 (by rw [hpv, hsy]; simp)
            rw [HX.out] at R
            clear H1 hpv hsy HC2
            go_wp2_with (first | (go_at_call_of 50 (Value.int .u8 (x.toNat : Int)); refine (hc1 _).mono ?_; rintro e w' ⟨rfl, rfl⟩) | (go_at_call_of 50 (Value.int .u8 (y.toNat : Int)); refine (hc2 _).mono ?_; rintro e w' ⟨rfl, rfl⟩) | (at_builtin; refine wpList_append_own _ rfl (.tmp 33) (.tmp 37) 81 rfl w.heap.size 5 i0 (.int .u8 0) 1 1 Tryz.underlying81 hi hz0 hz1 hz2 rfl (by decide) (.slice A acc.length c) acc.length (u8s acc) rfl (hown.alloc _) ⟨wr.heap.size, 0, none⟩ 1 1 [.int .u8 (x.toNat : Int)] rfl rfl (cell_one_new _ _ _) (by intro u hu; simp at hu; subst hu; rfl) (by unfold maxLen; omega) (by omega) (by simp; omega) ?_; intro v' w2 hown' hgr' _))
            obtain ⟨A', c', hv', hown2⟩ := own_push hown'
            have hb2 : Below w.heap.size w w2 := (hbel.alloc hz _).grown hgr' (by simp; omega) (fun g hg => (hown.lt g hg).1)
            go_roundw
            case rel => exact ⟨j + 1 + 1, _, A', c', by omega, by go_num, hv', hown2, R, hb2⟩
            case measure => simp [intOf]; omega
          · have HC2 := hsy
            have hc2 : ∀ wx, Calls Tryz.prog 50 #[.int .u8 (y.toNat : Int)] wx fun e w' => e = .returned (.bool true) ∧ wx = w' := fun wx => by
              have := ref_IsSpace (y.toNat : Int) wx; rw [show isSpaceB (y.toNat : Int) = true from HC2] at this; exact this
            by_cases hac : acc = []
            · have hl0z : ¬ (0 : Int) < (acc.length : Int) := by rw [hac]; simp
              have hemp : acc.isEmpty = true := by rw [hac]; rfl
              have R := H1.1.one (by simpa using hlt) H1.2 (by rw [hemp]; rfl)
              rw [HX.out] at R
              clear H1 hac hemp hpv hsy HC2
              go_wp2_with (first | (go_at_call_of 50 (Value.int .u8 (x.toNat : Int)); refine (hc1 _).mono ?_; rintro e w' ⟨rfl, rfl⟩) | (go_at_call_of 50 (Value.int .u8 (y.toNat : Int)); refine (hc2 _).mono ?_; rintro e w' ⟨rfl, rfl⟩) | (at_builtin; refine wpList_append_own _ rfl (.tmp 33) (.tmp 37) 81 rfl w.heap.size 5 i0 (.int .u8 0) 1 1 Tryz.underlying81 hi hz0 hz1 hz2 rfl (by decide) (.slice A acc.length c) acc.length (u8s acc) rfl (hown.alloc _) ⟨wr.heap.size, 0, none⟩ 1 1 [.int .u8 (x.toNat : Int)] rfl rfl (cell_one_new _ _ _) (by intro u hu; simp at hu; subst hu; rfl) (by unfold maxLen; omega) (by omega) (by simp; omega) ?_; intro v' w2 hown' hgr' _))
              obtain ⟨A', c', hv', hown2⟩ := own_push hown'
              have hb2 : Below w.heap.size w w2 := (hbel.alloc hz _).grown hgr' (by simp; omega) (fun g hg => (hown.lt g hg).1)
              go_roundw
              case rel => exact ⟨j + 1 + 1, _, A', c', by omega, by go_num, hv', hown2, R, hb2⟩
              case measure => simp [intOf]; omega
            · have hpos : 0 < acc.length := List.length_pos_iff.2 hac
              have hposz : (0 : Int) < (acc.length : Int) := by omega
              have hemp : acc.isEmpty = false := by cases acc with | nil => exact absurd rfl hac | cons _ _ => rfl
              have R := H1.1.two (by simpa using hlt) H1.2 (by rw [hemp, hpv, hsy]; rfl)
              have hroom := R.2.1
              rw [HX.out] at R
              simp only [List.length_append, List.length_cons, List.length_nil] at hroom
              clear H1 hac hemp hpv hsy HC2
              go_wp2_with (first | (go_at_call_of 50 (Value.int .u8 (x.toNat : Int)); refine (hc1 _).mono ?_; rintro e w' ⟨rfl, rfl⟩) | (go_at_call_of 50 (Value.int .u8 (y.toNat : Int)); refine (hc2 _).mono ?_; rintro e w' ⟨rfl, rfl⟩) | (at_builtin; refine wpList_append_own _ rfl (.tmp 30) (.tmp 31) 81 rfl w.heap.size 5 i0 (.int .u8 0) 1 1 Tryz.underlying81 hi hz0 hz1 hz2 rfl (by decide) (.slice A acc.length c) acc.length (u8s acc) rfl (hown.alloc _) ⟨wr.heap.size, 0, none⟩ 1 1 [.int .u8 32] rfl rfl (cell_one_new _ _ _) (by intro u hu; simp at hu; subst hu; rfl) (by unfold maxLen; omega) (by omega) (by simp; omega) ?_; intro v1 w1' hown1 hgr1 _; obtain ⟨A1, c1, hv1, hownB⟩ := own_push (x := 32) hown1; rw [List.length_append, List.length_cons, List.length_nil, Nat.zero_add] at hv1 hownB; subst hv1; have hbB : Below w.heap.size w w1' := (hbel.alloc hz _).grown hgr1 (by simp; omega) (fun g hg => (hown.lt g hg).1); have hzB := hbB.size) | (at_builtin; refine wpList_append_own _ rfl (.tmp 33) (.tmp 37) 81 rfl w.heap.size 5 i0 (.int .u8 0) 1 1 Tryz.underlying81 hi hz0 hz1 hz2 rfl (by decide) (.slice A1 (acc.length + 1) c1) (acc.length + 1) (u8s (acc ++ [32])) rfl (hownB.alloc _) ⟨w1'.heap.size, 0, none⟩ 1 1 [.int .u8 (x.toNat : Int)] rfl rfl (cell_one_new _ _ _) (by intro u hu; simp at hu; subst hu; rfl) (by unfold maxLen; omega) (by omega) (by simp; omega) ?_; intro v' w2 hown' hgr' _))
              obtain ⟨A', c', hv', hown2⟩ := own_push (acc := acc ++ [32]) (by rw [List.length_append, List.length_cons, List.length_nil, Nat.zero_add]; exact hown')
              have hb2 : Below w.heap.size w w2 := (hbB.alloc hzB _).grown hgr' (by simp; omega) (fun g hg => (hownB.lt g hg).1)
              go_roundw
              case rel => exact ⟨j + 1 + 1, _, A', c', by omega, by go_num, hv', hown2, R, hb2⟩
              case measure => simp [intOf]; omega
      · have HC1 := hsp
        have hc1 : ∀ wx, Calls Tryz.prog 50 #[.int .u8 (x.toNat : Int)] wx fun e w' => e = .returned (.bool true) ∧ wx = w' := fun wx => by
          have := ref_IsSpace (x.toNat : Int) wx; rw [show isSpaceB (x.toNat : Int) = true from HC1] at this; exact this
        have H1 := hrel.space (by simpa using hlt) (by rw [hxl]; exact hsp)
        clear hxl hsp HC1 hrel
        go_wp2_with ((go_at_call_of 50 (Value.int .u8 (x.toNat : Int)); refine (hc1 _).mono ?_; rintro e w' ⟨rfl, rfl⟩))
        go_roundw
        case rel => exact ⟨k + 1, acc, A, c, by omega, by go_num, rfl, hown, H1, hbel⟩
        case measure => simp [intOf]; omega
    · have H1 := hrel.done (by simp; omega)
      have hcv : ∀ dst, _ := fun dst hd => convert_own (dst := dst) (P := Tryz.prog) Tryz.underlying81 Tryz.underlying5 hd hown
      have hcv' := hcv 9 Tryz.underlying9
      clear hcv hown hrel
      subst H1
      go_wp2
      go_ret
      exact ⟨rfl, hbel⟩
end Go.Proofs.YtbfalppeifkjdaaGreatDoor
end
section
namespace Go.Proofs.YtbfalppeifkjdaaGreatDoor
open Go.RowKit Go.Lib
def validB (s : ByteArray) : Bool := decide ((chk s).2 = 0) && (collapse s.data.toList == s.data.toList)
theorem eq_bytes (l : List UInt8) (s : ByteArray) : ((ofBytes l).toList == s.toList) = (l == s.data.toList) := by
  rw [Lib.toList_data, Lib.toList_data, ofBytes_list]
end Go.Proofs.YtbfalppeifkjdaaGreatDoor
end
section
namespace Go.Proofs.YtbfalppeifkjdaaGreatDoor
open Go.RowKit Go.Lib
theorem start_char (r : Int) (h : nameCharB r = false) : nameStartB r = false := by
  unfold nameCharB at h
  cases hs : nameStartB r
  · rfl
  · rw [hs] at h; simp at h
def NmRel (s : ByteArray) (k : Nat) : Prop := k = 0 ∨ isNameB s = nameAt s k
theorem NmRel.none {s : ByteArray} {k r m : Nat} (h : NmRel s k) (hk : k < s.size) (hd : decP s k = (r, m)) (hm : m = 0 ∨ nameCharB r = false) : isNameB s = false := by
  have hc : nameCharB r = false := by
    rcases hm with rfl | hm
    · have := (decP_ok s k hk).2.2.2 (by rw [hd])
      rw [hd] at this
      simp only at this
      subst this
      decide
    · exact hm
  rcases h with rfl | h
  · rw [isNameB_pos s hk, hd]; simp only; rw [start_char _ hc]; rfl
  · rw [h, nameAt_eq s k hk, hd]; simp only; rw [hc]; rfl
theorem NmRel.start {s : ByteArray} {r m : Nat} (hk : 0 < s.size) (hd : decP s 0 = (r, m)) (hs : nameStartB r = false) : isNameB s = false := by
  rw [isNameB_pos s hk, hd]; simp only; rw [hs]; rfl
theorem NmRel.next {s : ByteArray} {k r m : Nat} (h : NmRel s k) (hk : k < s.size) (hd : decP s k = (r, m)) (hc : nameCharB r = true) (hs : k = 0 → nameStartB r = true) : NmRel s (k + m) := by
  right
  rcases h with rfl | h
  · rw [isNameB_pos s hk, hd]; simp only; rw [hs rfl, if_pos rfl, Nat.zero_add]
  · rw [h, nameAt_eq s k hk, hd]; simp only; rw [hc, if_pos rfl]
theorem NmRel.done {s : ByteArray} {k : Nat} (h : NmRel s k) (hk : k = s.size) : isNameB s = decide (0 < k) := by
  rcases Nat.eq_zero_or_pos k with h0 | h0
  · rw [isNameB_empty s (by omega)]; simp [h0]
  · rcases h with rfl | h
    · omega
    · rw [h, nameAt_end s k (by omega)]; simp [h0]
set_option maxHeartbeats 1000000 in
theorem ref_Valid (s : ByteArray) (w : World) (hs : s.size ≤ 70368744177664) :
    Calls Tryz.prog 31 #[.string s] w fun e w' => e = .returned (.bool (validB s)) ∧ Below w.heap.size w w' := by
  have hc := ref_Check s w (by unfold maxLen; omega)
  have hk : ∀ wx, _ := fun wx => ref_Collapse s wx hs
  unfold validB
  generalize chk s = d at hc ⊢
  have he := eq_bytes (collapse s.data.toList) s
  generalize ofBytes (collapse s.data.toList) = t at hk he
  have HE := Lib.hid he
  clear he
  obtain ⟨a, b⟩ := d
  simp only at hc ⊢
  by_cases hb0 : b = 0
  · subst hb0
    go_enter Tryz.func31, Tryz.ntmps31
    go_wp2_with (first | (go_at_call 49; refine hc.mono ?_; rintro e w1 ⟨rfl, hb⟩) | (go_at_call 30; refine (hk _).mono ?_; rintro e w2 ⟨rfl, hb2⟩))
    go_ret
    exact ⟨retb (by rw [HE.out]; simp), hb.trans (hb2.mono hb.size)⟩
  · have hbz : ((b : Int) == 0) = false := by simp; omega
    go_enter Tryz.func31, Tryz.ntmps31
    go_wp2_with (first | (go_at_call 49; refine hc.mono ?_; rintro e w1 ⟨rfl, hb⟩))
    go_ret
    exact ⟨retb (by simp [hb0]), hb⟩
end Go.Proofs.YtbfalppeifkjdaaGreatDoor
end
section
namespace Go.Proofs.YtbfalppeifkjdaaGreatDoor
open Go.RowKit Go.Lib
set_option maxHeartbeats 1000000 in
theorem mt_Check (s : ByteArray) (w : World) (hs : s.size ≤ maxLen) (hT : HasUtf8 w) :
    Calls Tryz.prog 47 #[.string s] w fun e w' => e = .returned (.tuple #[.int .i64 (chk s).1, .int .i64 (chk s).2]) ∧ Below w.heap.size w w' := by
  have hs' := hs
  unfold maxLen at hs
  go_enter Tryz.func47, Tryz.ntmps47
  go_wp2
  go_loopw [4] (fun i wr => ∃ k : Nat, k ≤ s.size ∧ i = .int .i64 k ∧ chk s = chkAt s k ∧ Below w.heap.size w wr) (fun i _ => s.size - (RowKit.intOf i).toNat)
  case atStart => exact ⟨0, Nat.zero_le _, rfl, rfl, Below.refl _ _⟩
  case round =>
    obtain ⟨k, hk, rfl, hf, hbel⟩ := hrel
    have hz := hbel.size
    by_cases hlt : k < s.size
    · have hc := text_Decode s k wr hs' (Utf8Tabs_below hT hbel)
      have hok := decP_ok s k hlt
      rw [decI_at s k hlt] at hc
      rw [chkAt_eq s k hlt] at hf
      generalize decP s k = d at hc hf hok
      obtain ⟨r, m⟩ := d
      simp only at hc hf hok
      by_cases hm : m = 0
      · subst hm
        rw [if_pos rfl] at hf
        have HF := Lib.hid hf
        clear hf
        go_wp2_with (go_at_call 66; refine hc.mono ?_; rintro e w1 ⟨rfl, hb⟩)
        all_goals go_ret2
        all_goals exact ⟨by rw [HF.out]; rfl, hbel.trans (hb.mono hz)⟩
      · rw [if_neg hm] at hf
        have hmz : ((m : Int) == 0) = false := by simp; omega
        have hchar := text_IsChar (r : Int)
        rcases hb0 : isCharB r with _ | _
        · rw [hb0, if_neg (by simp)] at hf
          rw [hb0] at hchar
          have HF := Lib.hid hf
          clear hf hb0
          go_wp2_with (first | (go_at_call 66; refine hc.mono ?_; rintro e w1 ⟨rfl, hb⟩) | (go_at_call 67; refine (hchar _).mono ?_; rintro e w' ⟨rfl, rfl⟩))
          all_goals go_ret2
          all_goals exact ⟨by rw [HF.out]; rfl, hbel.trans (hb.mono hz)⟩
        · rw [hb0, if_pos rfl] at hf
          rw [hb0] at hchar
          have HF := Lib.hid hf
          clear hf hb0
          go_wp2_with (first | (go_at_call 66; refine hc.mono ?_; rintro e w1 ⟨rfl, hb⟩) | (go_at_call 67; refine (hchar _).mono ?_; rintro e w' ⟨rfl, rfl⟩))
          go_roundw
          case rel => exact ⟨k + m, by omega, by go_num, HF.out, hbel.trans (hb.mono hz)⟩
          case measure => simp [RowKit.intOf]; omega
    · obtain rfl : k = s.size := by omega
      rw [chkAt_end s _ (Nat.le_refl _)] at hf
      have HF := Lib.hid hf
      clear hf
      go_wp2
      all_goals go_ret2
      all_goals exact ⟨by rw [HF.out]; rfl, hbel⟩
end Go.Proofs.YtbfalppeifkjdaaGreatDoor
end
