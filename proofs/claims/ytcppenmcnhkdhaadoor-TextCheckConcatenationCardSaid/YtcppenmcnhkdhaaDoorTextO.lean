/- The walk of the law on collapsing the parts of a string. -/
import Derived.Test.YtcppenmcnhkdhaaDoorTextN
namespace Go.Proofs.YtcppenmcnhkdhaaDoor
open Go.RowKit Go.Lib

theorem app_size (a b : ByteArray) : (a ++ b).size = a.size + b.size := ByteArray.size_append
theorem one_data (c : Int) : (strOfNums [c]).data.toList = [UInt8.ofNat c.toNat] := rfl
theorem one_size (c : Int) : (strOfNums [c]).size = 1 := rfl

set_option maxRecDepth 100000 in
set_option maxHeartbeats 4000000 in
theorem walk_TextComposes0 (s t : ByteArray) (x : Int) (w : World) (hx0 : 0 ≤ x) (hx1 : x ≤ 255) (hx : x % 4 = 0) (hs : s.size ≤ 140737488351232) (ht : t.size ≤ 140737488351232) (h5 : ¬ (5000 : Int) < (s.size : Int) + (t.size : Int)) (hT : HasTabs w) :
    Calls Tryd.prog 8 #[.string s, .string t, .int .u8 x] w fun e w' => e = .returned (.bool true) ∧ Below w.heap.size w w' := by
  have hsp : sp (UInt8.ofNat ((9 : Int)).toNat) = true := by decide
  have l1 : (ofBytes (collapse s.data.toList)).size ≤ s.size := by
    have h1 := collapse_length s.data.toList
    have h2 : s.data.toList.length = s.size := by simp
    rw [ofBytes_size]; omega
  have l2 : (ofBytes (collapse t.data.toList)).size ≤ t.size := by
    have h1 := collapse_length t.data.toList
    have h2 : t.data.toList.length = t.size := by simp
    rw [ofBytes_size]; omega
  have c1 : ∀ wx, _ := fun wx => text_Collapse (s ++ strOfNums [9] ++ t) wx (by rw [app_size, app_size, one_size]; omega)
  have c2 : ∀ wx, _ := fun wx => text_Collapse s wx (by omega)
  have c3 : ∀ wx, _ := fun wx => text_Collapse t wx (by omega)
  have c4 : ∀ wx, _ := fun wx => text_Collapse (ofBytes (collapse s.data.toList) ++ strOfNums [9] ++ strOfNums [9] ++ ofBytes (collapse t.data.toList)) wx (by rw [app_size, app_size, app_size, one_size]; omega)
  have e1 : (s ++ strOfNums [9] ++ t).data.toList = s.data.toList ++ [UInt8.ofNat ((9 : Int)).toNat] ++ t.data.toList := by rw [app_data, app_data, one_data]
  have e4 : (ofBytes (collapse s.data.toList) ++ strOfNums [9] ++ strOfNums [9] ++ ofBytes (collapse t.data.toList)).data.toList = collapse s.data.toList ++ [UInt8.ofNat ((9 : Int)).toNat] ++ [UInt8.ofNat ((9 : Int)).toNat] ++ collapse t.data.toList := by
    rw [app_data, app_data, app_data, one_data, ofBytes_list, ofBytes_list]
  rw [e1, collapse_composes _ _ _ hsp] at c1
  rw [e4] at c4
  clear e1 e4
  generalize ofBytes (collapse s.data.toList) = cs at c2 c4 l1
  generalize ofBytes (collapse t.data.toList) = ct at c3 c4 l2
  generalize ofBytes (collapse (collapse s.data.toList ++ [UInt8.ofNat ((9 : Int)).toNat] ++ [UInt8.ofNat ((9 : Int)).toNat] ++ collapse t.data.toList)) = r at c1 c4
  have hcv := conv1 w 9
  have hp := one_size 9
  generalize strOfNums [9] = p at c1 c4 hcv hp
  have z1 : s.size + p.size ≤ 5001 := by omega
  have z2 : (s ++ p).size ≤ 5001 := by rw [app_size]; omega
  have z3 : (s ++ p).size + t.size ≤ 5001 := by rw [app_size]; omega
  have z4 : cs.size + p.size ≤ 5001 := by omega
  have z5 : (cs ++ p).size ≤ 5001 := by rw [app_size]; omega
  have z6 : (cs ++ p).size + p.size ≤ 5002 := by rw [app_size]; omega
  have z7 : (cs ++ p ++ p).size ≤ 5002 := by rw [app_size, app_size]; omega
  have z8 : (cs ++ p ++ p).size + ct.size ≤ 5002 := by rw [app_size, app_size]; omega
  have hp1 : p.size ≤ 1 := by omega
  have hl2 : ct.size ≤ 5000 := by omega
  have hl1 : cs.size ≤ 5000 := by omega
  clear hp l1 l2
  have hix : ∀ wx, (Instr.index 39 (.agg #[.int .u8 9, .int .u8 10, .int .u8 13, .int .u8 32]) (.int .u8 0)).run Tryd.prog wx = .ok (.int .u8 9) wx := fun _ => by kernel_rfl
  go_enter Tryd.func8, Tryd.ntmps8
  go_wp2_with fail
  refine (law_alive _ ?_).mono ?_
  case refine_1 => exact HasTabs_below hT ((Below.refl _ _).alloc (Nat.le_refl _) _)
  rintro e w1 ⟨rfl, b1⟩
  go_wp2_with fail
  refine (c1 _).mono ?_
  rintro e w2 ⟨rfl, b2⟩
  go_wp2_with fail
  refine (c2 _).mono ?_
  rintro e w3 ⟨rfl, b3⟩
  go_wp2_with fail
  refine (c3 _).mono ?_
  rintro e w4 ⟨rfl, b4⟩
  go_wp2_with fail
  refine (c4 _).mono ?_
  rintro e w5 ⟨rfl, b5⟩
  go_wp2
  go_ret
  have s1 := b1.size; have s2 := b2.size; have s3 := b3.size; have s4 := b4.size
  simp only [World.size_alloc] at s1
  have b0 : Below w.heap.size w (w.alloc (.cells #[.int .u8 9] 5)) := (Below.refl _ _).alloc (Nat.le_refl _) _
  exact ⟨by simp, ((((b0.trans (b1.mono (by simp))).trans (b2.mono (by omega))).trans (b3.mono (by omega))).trans (b4.mono (by omega))).trans (b5.mono (by omega))⟩

set_option maxRecDepth 100000 in
set_option maxHeartbeats 4000000 in
theorem walk_TextComposes1 (s t : ByteArray) (x : Int) (w : World) (hx0 : 0 ≤ x) (hx1 : x ≤ 255) (hx : x % 4 = 1) (hs : s.size ≤ 140737488351232) (ht : t.size ≤ 140737488351232) (h5 : ¬ (5000 : Int) < (s.size : Int) + (t.size : Int)) (hT : HasTabs w) :
    Calls Tryd.prog 8 #[.string s, .string t, .int .u8 x] w fun e w' => e = .returned (.bool true) ∧ Below w.heap.size w w' := by
  have hsp : sp (UInt8.ofNat ((10 : Int)).toNat) = true := by decide
  have l1 : (ofBytes (collapse s.data.toList)).size ≤ s.size := by
    have h1 := collapse_length s.data.toList
    have h2 : s.data.toList.length = s.size := by simp
    rw [ofBytes_size]; omega
  have l2 : (ofBytes (collapse t.data.toList)).size ≤ t.size := by
    have h1 := collapse_length t.data.toList
    have h2 : t.data.toList.length = t.size := by simp
    rw [ofBytes_size]; omega
  have c1 : ∀ wx, _ := fun wx => text_Collapse (s ++ strOfNums [10] ++ t) wx (by rw [app_size, app_size, one_size]; omega)
  have c2 : ∀ wx, _ := fun wx => text_Collapse s wx (by omega)
  have c3 : ∀ wx, _ := fun wx => text_Collapse t wx (by omega)
  have c4 : ∀ wx, _ := fun wx => text_Collapse (ofBytes (collapse s.data.toList) ++ strOfNums [10] ++ strOfNums [10] ++ ofBytes (collapse t.data.toList)) wx (by rw [app_size, app_size, app_size, one_size]; omega)
  have e1 : (s ++ strOfNums [10] ++ t).data.toList = s.data.toList ++ [UInt8.ofNat ((10 : Int)).toNat] ++ t.data.toList := by rw [app_data, app_data, one_data]
  have e4 : (ofBytes (collapse s.data.toList) ++ strOfNums [10] ++ strOfNums [10] ++ ofBytes (collapse t.data.toList)).data.toList = collapse s.data.toList ++ [UInt8.ofNat ((10 : Int)).toNat] ++ [UInt8.ofNat ((10 : Int)).toNat] ++ collapse t.data.toList := by
    rw [app_data, app_data, app_data, one_data, ofBytes_list, ofBytes_list]
  rw [e1, collapse_composes _ _ _ hsp] at c1
  rw [e4] at c4
  clear e1 e4
  generalize ofBytes (collapse s.data.toList) = cs at c2 c4 l1
  generalize ofBytes (collapse t.data.toList) = ct at c3 c4 l2
  generalize ofBytes (collapse (collapse s.data.toList ++ [UInt8.ofNat ((10 : Int)).toNat] ++ [UInt8.ofNat ((10 : Int)).toNat] ++ collapse t.data.toList)) = r at c1 c4
  have hcv := conv1 w 10
  have hp := one_size 10
  generalize strOfNums [10] = p at c1 c4 hcv hp
  have z1 : s.size + p.size ≤ 5001 := by omega
  have z2 : (s ++ p).size ≤ 5001 := by rw [app_size]; omega
  have z3 : (s ++ p).size + t.size ≤ 5001 := by rw [app_size]; omega
  have z4 : cs.size + p.size ≤ 5001 := by omega
  have z5 : (cs ++ p).size ≤ 5001 := by rw [app_size]; omega
  have z6 : (cs ++ p).size + p.size ≤ 5002 := by rw [app_size]; omega
  have z7 : (cs ++ p ++ p).size ≤ 5002 := by rw [app_size, app_size]; omega
  have z8 : (cs ++ p ++ p).size + ct.size ≤ 5002 := by rw [app_size, app_size]; omega
  have hp1 : p.size ≤ 1 := by omega
  have hl2 : ct.size ≤ 5000 := by omega
  have hl1 : cs.size ≤ 5000 := by omega
  clear hp l1 l2
  have hix : ∀ wx, (Instr.index 39 (.agg #[.int .u8 9, .int .u8 10, .int .u8 13, .int .u8 32]) (.int .u8 1)).run Tryd.prog wx = .ok (.int .u8 10) wx := fun _ => by kernel_rfl
  go_enter Tryd.func8, Tryd.ntmps8
  go_wp2_with fail
  refine (law_alive _ ?_).mono ?_
  case refine_1 => exact HasTabs_below hT ((Below.refl _ _).alloc (Nat.le_refl _) _)
  rintro e w1 ⟨rfl, b1⟩
  go_wp2_with fail
  refine (c1 _).mono ?_
  rintro e w2 ⟨rfl, b2⟩
  go_wp2_with fail
  refine (c2 _).mono ?_
  rintro e w3 ⟨rfl, b3⟩
  go_wp2_with fail
  refine (c3 _).mono ?_
  rintro e w4 ⟨rfl, b4⟩
  go_wp2_with fail
  refine (c4 _).mono ?_
  rintro e w5 ⟨rfl, b5⟩
  go_wp2
  go_ret
  have s1 := b1.size; have s2 := b2.size; have s3 := b3.size; have s4 := b4.size
  simp only [World.size_alloc] at s1
  have b0 : Below w.heap.size w (w.alloc (.cells #[.int .u8 10] 5)) := (Below.refl _ _).alloc (Nat.le_refl _) _
  exact ⟨by simp, ((((b0.trans (b1.mono (by simp))).trans (b2.mono (by omega))).trans (b3.mono (by omega))).trans (b4.mono (by omega))).trans (b5.mono (by omega))⟩

set_option maxRecDepth 100000 in
set_option maxHeartbeats 4000000 in
theorem walk_TextComposes2 (s t : ByteArray) (x : Int) (w : World) (hx0 : 0 ≤ x) (hx1 : x ≤ 255) (hx : x % 4 = 2) (hs : s.size ≤ 140737488351232) (ht : t.size ≤ 140737488351232) (h5 : ¬ (5000 : Int) < (s.size : Int) + (t.size : Int)) (hT : HasTabs w) :
    Calls Tryd.prog 8 #[.string s, .string t, .int .u8 x] w fun e w' => e = .returned (.bool true) ∧ Below w.heap.size w w' := by
  have hsp : sp (UInt8.ofNat ((13 : Int)).toNat) = true := by decide
  have l1 : (ofBytes (collapse s.data.toList)).size ≤ s.size := by
    have h1 := collapse_length s.data.toList
    have h2 : s.data.toList.length = s.size := by simp
    rw [ofBytes_size]; omega
  have l2 : (ofBytes (collapse t.data.toList)).size ≤ t.size := by
    have h1 := collapse_length t.data.toList
    have h2 : t.data.toList.length = t.size := by simp
    rw [ofBytes_size]; omega
  have c1 : ∀ wx, _ := fun wx => text_Collapse (s ++ strOfNums [13] ++ t) wx (by rw [app_size, app_size, one_size]; omega)
  have c2 : ∀ wx, _ := fun wx => text_Collapse s wx (by omega)
  have c3 : ∀ wx, _ := fun wx => text_Collapse t wx (by omega)
  have c4 : ∀ wx, _ := fun wx => text_Collapse (ofBytes (collapse s.data.toList) ++ strOfNums [13] ++ strOfNums [13] ++ ofBytes (collapse t.data.toList)) wx (by rw [app_size, app_size, app_size, one_size]; omega)
  have e1 : (s ++ strOfNums [13] ++ t).data.toList = s.data.toList ++ [UInt8.ofNat ((13 : Int)).toNat] ++ t.data.toList := by rw [app_data, app_data, one_data]
  have e4 : (ofBytes (collapse s.data.toList) ++ strOfNums [13] ++ strOfNums [13] ++ ofBytes (collapse t.data.toList)).data.toList = collapse s.data.toList ++ [UInt8.ofNat ((13 : Int)).toNat] ++ [UInt8.ofNat ((13 : Int)).toNat] ++ collapse t.data.toList := by
    rw [app_data, app_data, app_data, one_data, ofBytes_list, ofBytes_list]
  rw [e1, collapse_composes _ _ _ hsp] at c1
  rw [e4] at c4
  clear e1 e4
  generalize ofBytes (collapse s.data.toList) = cs at c2 c4 l1
  generalize ofBytes (collapse t.data.toList) = ct at c3 c4 l2
  generalize ofBytes (collapse (collapse s.data.toList ++ [UInt8.ofNat ((13 : Int)).toNat] ++ [UInt8.ofNat ((13 : Int)).toNat] ++ collapse t.data.toList)) = r at c1 c4
  have hcv := conv1 w 13
  have hp := one_size 13
  generalize strOfNums [13] = p at c1 c4 hcv hp
  have z1 : s.size + p.size ≤ 5001 := by omega
  have z2 : (s ++ p).size ≤ 5001 := by rw [app_size]; omega
  have z3 : (s ++ p).size + t.size ≤ 5001 := by rw [app_size]; omega
  have z4 : cs.size + p.size ≤ 5001 := by omega
  have z5 : (cs ++ p).size ≤ 5001 := by rw [app_size]; omega
  have z6 : (cs ++ p).size + p.size ≤ 5002 := by rw [app_size]; omega
  have z7 : (cs ++ p ++ p).size ≤ 5002 := by rw [app_size, app_size]; omega
  have z8 : (cs ++ p ++ p).size + ct.size ≤ 5002 := by rw [app_size, app_size]; omega
  have hp1 : p.size ≤ 1 := by omega
  have hl2 : ct.size ≤ 5000 := by omega
  have hl1 : cs.size ≤ 5000 := by omega
  clear hp l1 l2
  have hix : ∀ wx, (Instr.index 39 (.agg #[.int .u8 9, .int .u8 10, .int .u8 13, .int .u8 32]) (.int .u8 2)).run Tryd.prog wx = .ok (.int .u8 13) wx := fun _ => by kernel_rfl
  go_enter Tryd.func8, Tryd.ntmps8
  go_wp2_with fail
  refine (law_alive _ ?_).mono ?_
  case refine_1 => exact HasTabs_below hT ((Below.refl _ _).alloc (Nat.le_refl _) _)
  rintro e w1 ⟨rfl, b1⟩
  go_wp2_with fail
  refine (c1 _).mono ?_
  rintro e w2 ⟨rfl, b2⟩
  go_wp2_with fail
  refine (c2 _).mono ?_
  rintro e w3 ⟨rfl, b3⟩
  go_wp2_with fail
  refine (c3 _).mono ?_
  rintro e w4 ⟨rfl, b4⟩
  go_wp2_with fail
  refine (c4 _).mono ?_
  rintro e w5 ⟨rfl, b5⟩
  go_wp2
  go_ret
  have s1 := b1.size; have s2 := b2.size; have s3 := b3.size; have s4 := b4.size
  simp only [World.size_alloc] at s1
  have b0 : Below w.heap.size w (w.alloc (.cells #[.int .u8 13] 5)) := (Below.refl _ _).alloc (Nat.le_refl _) _
  exact ⟨by simp, ((((b0.trans (b1.mono (by simp))).trans (b2.mono (by omega))).trans (b3.mono (by omega))).trans (b4.mono (by omega))).trans (b5.mono (by omega))⟩

set_option maxRecDepth 100000 in
set_option maxHeartbeats 4000000 in
theorem walk_TextComposes3 (s t : ByteArray) (x : Int) (w : World) (hx0 : 0 ≤ x) (hx1 : x ≤ 255) (hx : x % 4 = 3) (hs : s.size ≤ 140737488351232) (ht : t.size ≤ 140737488351232) (h5 : ¬ (5000 : Int) < (s.size : Int) + (t.size : Int)) (hT : HasTabs w) :
    Calls Tryd.prog 8 #[.string s, .string t, .int .u8 x] w fun e w' => e = .returned (.bool true) ∧ Below w.heap.size w w' := by
  have hsp : sp (UInt8.ofNat ((32 : Int)).toNat) = true := by decide
  have l1 : (ofBytes (collapse s.data.toList)).size ≤ s.size := by
    have h1 := collapse_length s.data.toList
    have h2 : s.data.toList.length = s.size := by simp
    rw [ofBytes_size]; omega
  have l2 : (ofBytes (collapse t.data.toList)).size ≤ t.size := by
    have h1 := collapse_length t.data.toList
    have h2 : t.data.toList.length = t.size := by simp
    rw [ofBytes_size]; omega
  have c1 : ∀ wx, _ := fun wx => text_Collapse (s ++ strOfNums [32] ++ t) wx (by rw [app_size, app_size, one_size]; omega)
  have c2 : ∀ wx, _ := fun wx => text_Collapse s wx (by omega)
  have c3 : ∀ wx, _ := fun wx => text_Collapse t wx (by omega)
  have c4 : ∀ wx, _ := fun wx => text_Collapse (ofBytes (collapse s.data.toList) ++ strOfNums [32] ++ strOfNums [32] ++ ofBytes (collapse t.data.toList)) wx (by rw [app_size, app_size, app_size, one_size]; omega)
  have e1 : (s ++ strOfNums [32] ++ t).data.toList = s.data.toList ++ [UInt8.ofNat ((32 : Int)).toNat] ++ t.data.toList := by rw [app_data, app_data, one_data]
  have e4 : (ofBytes (collapse s.data.toList) ++ strOfNums [32] ++ strOfNums [32] ++ ofBytes (collapse t.data.toList)).data.toList = collapse s.data.toList ++ [UInt8.ofNat ((32 : Int)).toNat] ++ [UInt8.ofNat ((32 : Int)).toNat] ++ collapse t.data.toList := by
    rw [app_data, app_data, app_data, one_data, ofBytes_list, ofBytes_list]
  rw [e1, collapse_composes _ _ _ hsp] at c1
  rw [e4] at c4
  clear e1 e4
  generalize ofBytes (collapse s.data.toList) = cs at c2 c4 l1
  generalize ofBytes (collapse t.data.toList) = ct at c3 c4 l2
  generalize ofBytes (collapse (collapse s.data.toList ++ [UInt8.ofNat ((32 : Int)).toNat] ++ [UInt8.ofNat ((32 : Int)).toNat] ++ collapse t.data.toList)) = r at c1 c4
  have hcv := conv1 w 32
  have hp := one_size 32
  generalize strOfNums [32] = p at c1 c4 hcv hp
  have z1 : s.size + p.size ≤ 5001 := by omega
  have z2 : (s ++ p).size ≤ 5001 := by rw [app_size]; omega
  have z3 : (s ++ p).size + t.size ≤ 5001 := by rw [app_size]; omega
  have z4 : cs.size + p.size ≤ 5001 := by omega
  have z5 : (cs ++ p).size ≤ 5001 := by rw [app_size]; omega
  have z6 : (cs ++ p).size + p.size ≤ 5002 := by rw [app_size]; omega
  have z7 : (cs ++ p ++ p).size ≤ 5002 := by rw [app_size, app_size]; omega
  have z8 : (cs ++ p ++ p).size + ct.size ≤ 5002 := by rw [app_size, app_size]; omega
  have hp1 : p.size ≤ 1 := by omega
  have hl2 : ct.size ≤ 5000 := by omega
  have hl1 : cs.size ≤ 5000 := by omega
  clear hp l1 l2
  have hix : ∀ wx, (Instr.index 39 (.agg #[.int .u8 9, .int .u8 10, .int .u8 13, .int .u8 32]) (.int .u8 3)).run Tryd.prog wx = .ok (.int .u8 32) wx := fun _ => by kernel_rfl
  go_enter Tryd.func8, Tryd.ntmps8
  go_wp2_with fail
  refine (law_alive _ ?_).mono ?_
  case refine_1 => exact HasTabs_below hT ((Below.refl _ _).alloc (Nat.le_refl _) _)
  rintro e w1 ⟨rfl, b1⟩
  go_wp2_with fail
  refine (c1 _).mono ?_
  rintro e w2 ⟨rfl, b2⟩
  go_wp2_with fail
  refine (c2 _).mono ?_
  rintro e w3 ⟨rfl, b3⟩
  go_wp2_with fail
  refine (c3 _).mono ?_
  rintro e w4 ⟨rfl, b4⟩
  go_wp2_with fail
  refine (c4 _).mono ?_
  rintro e w5 ⟨rfl, b5⟩
  go_wp2
  go_ret
  have s1 := b1.size; have s2 := b2.size; have s3 := b3.size; have s4 := b4.size
  simp only [World.size_alloc] at s1
  have b0 : Below w.heap.size w (w.alloc (.cells #[.int .u8 32] 5)) := (Below.refl _ _).alloc (Nat.le_refl _) _
  exact ⟨by simp, ((((b0.trans (b1.mono (by simp))).trans (b2.mono (by omega))).trans (b3.mono (by omega))).trans (b4.mono (by omega))).trans (b5.mono (by omega))⟩

set_option maxRecDepth 100000 in
set_option maxHeartbeats 4000000 in
theorem walk_TextComposes (s t : ByteArray) (x : Int) (w : World) (hx0 : 0 ≤ x) (hx1 : x ≤ 255) (hs : s.size ≤ 140737488351232) (ht : t.size ≤ 140737488351232) (hT : HasTabs w) :
    Calls Tryd.prog 8 #[.string s, .string t, .int .u8 x] w fun e w' => e = .returned (.bool true) ∧ Below w.heap.size w w' := by
  by_cases h5 : (5000 : Int) < (s.size : Int) + (t.size : Int)
  · go_enter Tryd.func8, Tryd.ntmps8
    go_wp2_with fail
    refine (law_alive _ hT).mono ?_
    rintro e w1 ⟨rfl, b1⟩
    go_wp2
    go_ret
    exact ⟨rfl, b1⟩
  rcases (by omega : x % 4 = 0 ∨ x % 4 = 1 ∨ x % 4 = 2 ∨ x % 4 = 3) with h | h | h | h
  · exact walk_TextComposes0 s t x w hx0 hx1 h hs ht h5 hT
  · exact walk_TextComposes1 s t x w hx0 hx1 h hs ht h5 hT
  · exact walk_TextComposes2 s t x w hx0 hx1 h hs ht h5 hT
  · exact walk_TextComposes3 s t x w hx0 hx1 h hs ht h5 hT
end Go.Proofs.YtcppenmcnhkdhaaDoor
