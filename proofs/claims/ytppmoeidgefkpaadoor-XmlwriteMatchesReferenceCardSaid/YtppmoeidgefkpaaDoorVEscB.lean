/- Packed from the texts EscB. -/
import Derived.Test.YtppmoeidgefkpaaDoorVEscA
import Derived.Lib.AppendStr
section
namespace Go.Proofs.YtppmoeidgefkpaaDoor
open Go.RowKit Go.Lib
theorem einfo_u8 : (Tryd.prog.info? 5).map (fun i => (i.zero, i.size, i.bytes)) = some (some (.int .u8 0), 1, 1) := by kernel_rfl
def escB (attr : Bool) (c : UInt8) : List UInt8 :=
  if c.toNat = 38 then [38, 97, 109, 112, 59] else if c.toNat = 60 then [38, 108, 116, 59] else if c.toNat = 62 then [38, 103, 116, 59] else if c.toNat = 13 then [38, 35, 49, 51, 59]
  else if attr && c.toNat == 34 then [38, 113, 117, 111, 116, 59] else if attr && c.toNat == 9 then [38, 35, 57, 59] else if attr && c.toNat == 10 then [38, 35, 49, 48, 59] else [c]
def escP (attr : Bool) (l : List UInt8) : List UInt8 := l.flatMap (escB attr)
theorem escP_cons (attr : Bool) (c : UInt8) (r : List UInt8) : escP attr (c :: r) = escB attr c ++ escP attr r := by unfold escP; rw [List.flatMap_cons]
theorem escP_app (attr : Bool) (a b : List UInt8) : escP attr (a ++ b) = escP attr a ++ escP attr b := by unfold escP; rw [List.flatMap_append]
theorem escB_len (attr : Bool) (c : UInt8) : (escB attr c).length ≤ 6 := by
  unfold escB
  repeat' split
  all_goals simp
theorem escP_len (attr : Bool) : ∀ l : List UInt8, (escP attr l).length ≤ 6 * l.length
  | [] => by simp [escP]
  | c :: r => by
    have h1 := escB_len attr c
    have h2 := escP_len attr r
    rw [escP_cons, List.length_append, List.length_cons]; omega
theorem own_push_list {w : World} {base : Nat} {e : TypeId} {v' : Value} {acc l : List UInt8} {n : Nat} (hn : l.length = n) (h : w.ownsRow base e 1 v' (acc.length + n) (u8s acc ++ u8s l)) :
    ∃ A c, v' = .slice A (acc ++ l).length c ∧ w.ownsRow base e 1 (.slice A (acc ++ l).length c) (acc ++ l).length (u8s (acc ++ l)) := by
  obtain ⟨A, c, rfl⟩ := own_form h
  rw [u8s_append, List.length_append, hn]
  exact ⟨A, c, rfl, h⟩
set_option maxRecDepth 100000 in
set_option maxHeartbeats 8000000 in
theorem eref_Escape (s : ByteArray) (attr : Bool) (w : World) (hs : s.size ≤ 1000000) :
    Calls Tryd.prog 35 #[.string s, .bool attr] w fun e w' => e = .returned (.string (ofBytes (escP attr s.data.toList))) ∧ Below w.heap.size w w' := by
  obtain ⟨i0, hi, hz0, hz1, hz2⟩ := info_parts einfo_u8
  have hsl : s.data.toList.length = s.size := by simp
  have HSL := Lib.hid hsl
  clear hsl
  go_enter Tryd.func35, Tryd.ntmps35
  go_wp2
  go_loopw [5, 6] (fun v i wr => ∃ (k : Nat) (acc : List UInt8) (A : Option Addr) (c : Nat), k ≤ s.size ∧ i = .int .i64 k ∧ v = .slice A acc.length c ∧ wr.ownsRow w.heap.size 5 1 (.slice A acc.length c) acc.length (u8s acc) ∧ (escP attr s.data.toList = acc ++ escP attr (s.data.toList.drop k) ∧ acc.length ≤ 6 * k) ∧ Below w.heap.size w wr) (fun _ i _ => s.size - (intOf i).toNat)
  case atStart => exact ⟨0, [], none, 0, by omega, rfl, rfl, World.ownsRow_nil _ _ _ _, ⟨rfl, by simp⟩, Below.refl _ _⟩
  case round =>
    obtain ⟨k, acc, A, c, hk, rfl, rfl, hown, hrel, hbel⟩ := hrel
    have hz := hbel.size
    by_cases hlt : k < s.size
    · have hkl : k < s.data.toList.length := by have := HSL.out; omega
      have hd := List.drop_eq_getElem_cons hkl
      obtain ⟨x, hx⟩ : ∃ x, s[k]'hlt = x := ⟨_, rfl⟩
      have hxl : s.data.toList[k]'hkl = x := by rw [← hx]; simp [ByteArray.getElem_eq_getElem_data]
      rw [hd, hxl, escP_cons, ← List.append_assoc] at hrel
      have hx8 := x.toNat_lt
      have hle : acc.length ≤ 6000000 := by omega
      clear hd hxl
      have part : ∀ l : List UInt8, escB attr x = l → l.length ≤ 6 → escP attr s.data.toList = (acc ++ l) ++ escP attr (s.data.toList.drop (k + 1)) ∧ (acc ++ l).length ≤ 6 * (k + 1) := fun l hl h6 => ⟨by rw [← hl]; exact hrel.1, by rw [List.length_append]; omega⟩
      obtain ⟨z, hzx⟩ : ∃ z : Int, (x.toNat : Int) = z := ⟨_, rfl⟩
      rcases (by omega : z = 38 ∨ z = 60 ∨ z = 62 ∨ z = 13 ∨ (z ≠ 38 ∧ z ≠ 60 ∧ z ≠ 62 ∧ z ≠ 13)) with rfl | rfl | rfl | rfl | ⟨n1, n2, n3, n4⟩
      · have R := part [38, 97, 109, 112, 59] (by unfold escB; rw [if_pos (by omega)]) (by decide)
        have HR := Lib.hid R
        clear R hrel part
        have hl3 : ([38, 97, 109, 112, 59] : List UInt8).length = 5 := by decide
        go_wp2_with (at_builtin; refine wpList_append_own_string _ rfl (.tmp 24) _ 49 9 rfl w.heap.size 5 i0 Tryd.underlying49 Tryd.underlying9 hi hz0 hz1 hz2 (.slice A acc.length c) acc.length (u8s acc) rfl hown ⟨#[38, 97, 109, 112, 59]⟩ rfl (by show acc.length + 5 ≤ maxLen; unfold maxLen; omega) (by show acc.length + 5 ≤ _; omega) (by omega) ?_; intro v' w2 hown' hgr' _)
        obtain ⟨A', c', hv', hown2⟩ := own_push_list (l := [38, 97, 109, 112, 59]) hl3 hown'
        have hb2 : Below w.heap.size w w2 := hbel.grown hgr' (by omega) (fun g hg => (hown.lt g hg).1)
        go_roundw
        case rel => exact ⟨k + 1, _, A', c', by omega, by go_num, hv', hown2, HR.out, hb2⟩
        case measure => simp [intOf]; omega
      · have R := part [38, 108, 116, 59] (by unfold escB; rw [if_neg (by omega), if_pos (by omega)]) (by decide)
        have HR := Lib.hid R
        clear R hrel part
        have hl3 : ([38, 108, 116, 59] : List UInt8).length = 4 := by decide
        go_wp2_with (at_builtin; refine wpList_append_own_string _ rfl (.tmp 29) _ 49 9 rfl w.heap.size 5 i0 Tryd.underlying49 Tryd.underlying9 hi hz0 hz1 hz2 (.slice A acc.length c) acc.length (u8s acc) rfl hown ⟨#[38, 108, 116, 59]⟩ rfl (by show acc.length + 4 ≤ maxLen; unfold maxLen; omega) (by show acc.length + 4 ≤ _; omega) (by omega) ?_; intro v' w2 hown' hgr' _)
        obtain ⟨A', c', hv', hown2⟩ := own_push_list (l := [38, 108, 116, 59]) hl3 hown'
        have hb2 : Below w.heap.size w w2 := hbel.grown hgr' (by omega) (fun g hg => (hown.lt g hg).1)
        go_roundw
        case rel => exact ⟨k + 1, _, A', c', by omega, by go_num, hv', hown2, HR.out, hb2⟩
        case measure => simp [intOf]; omega
      · have R := part [38, 103, 116, 59] (by unfold escB; rw [if_neg (by omega), if_neg (by omega), if_pos (by omega)]) (by decide)
        have HR := Lib.hid R
        clear R hrel part
        have hl3 : ([38, 103, 116, 59] : List UInt8).length = 4 := by decide
        go_wp2_with (at_builtin; refine wpList_append_own_string _ rfl (.tmp 34) _ 49 9 rfl w.heap.size 5 i0 Tryd.underlying49 Tryd.underlying9 hi hz0 hz1 hz2 (.slice A acc.length c) acc.length (u8s acc) rfl hown ⟨#[38, 103, 116, 59]⟩ rfl (by show acc.length + 4 ≤ maxLen; unfold maxLen; omega) (by show acc.length + 4 ≤ _; omega) (by omega) ?_; intro v' w2 hown' hgr' _)
        obtain ⟨A', c', hv', hown2⟩ := own_push_list (l := [38, 103, 116, 59]) hl3 hown'
        have hb2 : Below w.heap.size w w2 := hbel.grown hgr' (by omega) (fun g hg => (hown.lt g hg).1)
        go_roundw
        case rel => exact ⟨k + 1, _, A', c', by omega, by go_num, hv', hown2, HR.out, hb2⟩
        case measure => simp [intOf]; omega
      · have R := part [38, 35, 49, 51, 59] (by unfold escB; rw [if_neg (by omega), if_neg (by omega), if_neg (by omega), if_pos (by omega)]) (by decide)
        have HR := Lib.hid R
        clear R hrel part
        have hl3 : ([38, 35, 49, 51, 59] : List UInt8).length = 5 := by decide
        go_wp2_with (at_builtin; refine wpList_append_own_string _ rfl (.tmp 39) _ 49 9 rfl w.heap.size 5 i0 Tryd.underlying49 Tryd.underlying9 hi hz0 hz1 hz2 (.slice A acc.length c) acc.length (u8s acc) rfl hown ⟨#[38, 35, 49, 51, 59]⟩ rfl (by show acc.length + 5 ≤ maxLen; unfold maxLen; omega) (by show acc.length + 5 ≤ _; omega) (by omega) ?_; intro v' w2 hown' hgr' _)
        obtain ⟨A', c', hv', hown2⟩ := own_push_list (l := [38, 35, 49, 51, 59]) hl3 hown'
        have hb2 : Below w.heap.size w w2 := hbel.grown hgr' (by omega) (fun g hg => (hown.lt g hg).1)
        go_roundw
        case rel => exact ⟨k + 1, _, A', c', by omega, by go_num, hv', hown2, HR.out, hb2⟩
        case measure => simp [intOf]; omega
      · have hb : escB attr x = if attr && x.toNat == 34 then [38, 113, 117, 111, 116, 59] else if attr && x.toNat == 9 then [38, 35, 57, 59] else if attr && x.toNat == 10 then [38, 35, 49, 48, 59] else [x] := by
          unfold escB; rw [if_neg (by omega), if_neg (by omega), if_neg (by omega), if_neg (by omega)]
        have q1 : (z == 38) = false := by simpa using n1
        have q2 : (z == 60) = false := by simpa using n2
        have q3 : (z == 62) = false := by simpa using n3
        have q4 : (z == 13) = false := by simpa using n4
        rcases attr with _ | _
        · have R := part [x] (by rw [hb]; rfl) (by simp)
          clear n1 n2 n3 n4
          have HR := Lib.hid R
          have HX := Lib.hid hzx
          clear R hrel part hb
          go_wp2_with (at_builtin; refine wpList_append_own _ rfl (.tmp 17) (.tmp 19) 49 rfl w.heap.size 5 i0 (.int .u8 0) 1 1 Tryd.underlying49 hi hz0 hz1 hz2 rfl (by decide) (.slice A acc.length c) acc.length (u8s acc) rfl (hown.alloc _) ⟨wr.heap.size, 0, none⟩ 1 1 [.int .u8 z] rfl rfl (cell_one_new _ _ _) (by intro u hu; simp at hu; subst hu; rfl) (by unfold maxLen; omega) (by omega) (by simp; omega) ?_; intro v' w2 hown' hgr' _)
          obtain ⟨A', c', hv', hown2⟩ := own_push (x := x) (by rw [HX.out]; exact hown')
          have hb2 : Below w.heap.size w w2 := (hbel.alloc hz _).grown hgr' (by simp; omega) (fun g hg => (hown.lt g hg).1)
          go_roundw
          case rel => exact ⟨k + 1, _, A', c', by omega, by go_num, hv', hown2, HR.out, hb2⟩
          case measure => simp [intOf]; omega
        · rcases (by omega : z = 34 ∨ z = 9 ∨ z = 10 ∨ (z ≠ 34 ∧ z ≠ 9 ∧ z ≠ 10)) with rfl | rfl | rfl | ⟨n5, n6, n7⟩
          · have R := part [38, 113, 117, 111, 116, 59] (by rw [hb, show x.toNat = 34 by omega]; rfl) (by decide)
            clear n1 n2 n3 n4 q1 q2 q3 q4
            have HR := Lib.hid R
            clear R hrel part
            have hl3 : ([38, 113, 117, 111, 116, 59] : List UInt8).length = 6 := by decide
            go_wp2_with (at_builtin; refine wpList_append_own_string _ rfl (.tmp 47) _ 49 9 rfl w.heap.size 5 i0 Tryd.underlying49 Tryd.underlying9 hi hz0 hz1 hz2 (.slice A acc.length c) acc.length (u8s acc) rfl hown ⟨#[38, 113, 117, 111, 116, 59]⟩ rfl (by show acc.length + 6 ≤ maxLen; unfold maxLen; omega) (by show acc.length + 6 ≤ _; omega) (by omega) ?_; intro v' w2 hown' hgr' _)
            obtain ⟨A', c', hv', hown2⟩ := own_push_list (l := [38, 113, 117, 111, 116, 59]) hl3 hown'
            have hb2 : Below w.heap.size w w2 := hbel.grown hgr' (by omega) (fun g hg => (hown.lt g hg).1)
            go_roundw
            case rel => exact ⟨k + 1, _, A', c', by omega, by go_num, hv', hown2, HR.out, hb2⟩
            case measure => simp [intOf]; omega
          · have R := part [38, 35, 57, 59] (by rw [hb, show x.toNat = 9 by omega]; rfl) (by decide)
            clear n1 n2 n3 n4 q1 q2 q3 q4
            have HR := Lib.hid R
            clear R hrel part
            have hl3 : ([38, 35, 57, 59] : List UInt8).length = 4 := by decide
            go_wp2_with (at_builtin; refine wpList_append_own_string _ rfl (.tmp 55) _ 49 9 rfl w.heap.size 5 i0 Tryd.underlying49 Tryd.underlying9 hi hz0 hz1 hz2 (.slice A acc.length c) acc.length (u8s acc) rfl hown ⟨#[38, 35, 57, 59]⟩ rfl (by show acc.length + 4 ≤ maxLen; unfold maxLen; omega) (by show acc.length + 4 ≤ _; omega) (by omega) ?_; intro v' w2 hown' hgr' _)
            obtain ⟨A', c', hv', hown2⟩ := own_push_list (l := [38, 35, 57, 59]) hl3 hown'
            have hb2 : Below w.heap.size w w2 := hbel.grown hgr' (by omega) (fun g hg => (hown.lt g hg).1)
            go_roundw
            case rel => exact ⟨k + 1, _, A', c', by omega, by go_num, hv', hown2, HR.out, hb2⟩
            case measure => simp [intOf]; omega
          · have R := part [38, 35, 49, 48, 59] (by rw [hb, show x.toNat = 10 by omega]; rfl) (by decide)
            clear n1 n2 n3 n4 q1 q2 q3 q4
            have HR := Lib.hid R
            clear R hrel part
            have hl3 : ([38, 35, 49, 48, 59] : List UInt8).length = 5 := by decide
            go_wp2_with (at_builtin; refine wpList_append_own_string _ rfl (.tmp 63) _ 49 9 rfl w.heap.size 5 i0 Tryd.underlying49 Tryd.underlying9 hi hz0 hz1 hz2 (.slice A acc.length c) acc.length (u8s acc) rfl hown ⟨#[38, 35, 49, 48, 59]⟩ rfl (by show acc.length + 5 ≤ maxLen; unfold maxLen; omega) (by show acc.length + 5 ≤ _; omega) (by omega) ?_; intro v' w2 hown' hgr' _)
            obtain ⟨A', c', hv', hown2⟩ := own_push_list (l := [38, 35, 49, 48, 59]) hl3 hown'
            have hb2 : Below w.heap.size w w2 := hbel.grown hgr' (by omega) (fun g hg => (hown.lt g hg).1)
            go_roundw
            case rel => exact ⟨k + 1, _, A', c', by omega, by go_num, hv', hown2, HR.out, hb2⟩
            case measure => simp [intOf]; omega
          · have R := part [x] (by rw [hb, if_neg (by simp; omega), if_neg (by simp; omega), if_neg (by simp; omega)]) (by simp)
            have q5 : (z == 34) = false := by simpa using n5
            have q6 : (z == 9) = false := by simpa using n6
            have q7 : (z == 10) = false := by simpa using n7
            clear n1 n2 n3 n4 n5 n6 n7
            have HR := Lib.hid R
            have HX := Lib.hid hzx
            clear R hrel part hb
            go_wp2_with (at_builtin; refine wpList_append_own _ rfl (.tmp 17) (.tmp 19) 49 rfl w.heap.size 5 i0 (.int .u8 0) 1 1 Tryd.underlying49 hi hz0 hz1 hz2 rfl (by decide) (.slice A acc.length c) acc.length (u8s acc) rfl (hown.alloc _) ⟨wr.heap.size, 0, none⟩ 1 1 [.int .u8 z] rfl rfl (cell_one_new _ _ _) (by intro u hu; simp at hu; subst hu; rfl) (by unfold maxLen; omega) (by omega) (by simp; omega) ?_; intro v' w2 hown' hgr' _)
            obtain ⟨A', c', hv', hown2⟩ := own_push (x := x) (by rw [HX.out]; exact hown')
            have hb2 : Below w.heap.size w w2 := (hbel.alloc hz _).grown hgr' (by simp; omega) (fun g hg => (hown.lt g hg).1)
            go_roundw
            case rel => exact ⟨k + 1, _, A', c', by omega, by go_num, hv', hown2, HR.out, hb2⟩
            case measure => simp [intOf]; omega
    · obtain rfl : k = s.size := by omega
      have hae : escP attr s.data.toList = acc := by
        rw [hrel.1, List.drop_eq_nil_of_le (by have := HSL.out; omega)]
        show acc ++ [] = acc
        rw [List.append_nil]
      have HE := Lib.hid hae
      have hconv := convert_own (P := Tryd.prog) (w := wr) (src := 49) (dst := 9) Tryd.underlying49 Tryd.underlying5 Tryd.underlying9 hown
      clear hrel hae
      go_wp2
      go_ret
      exact ⟨by rw [HE.out]; rfl, hbel⟩
end Go.Proofs.YtppmoeidgefkpaaDoor
end
