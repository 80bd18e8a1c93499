/- Packed from the texts JsJ. -/
import Derived.Test.YtggfblodjanfkaaGreatDoorVShelf
import Derived.Test.YtggfblodjanfkaaGreatDoorVkG
import Derived.Shelf.Unicode.ValidAny
section
namespace Go.Proofs.YtggfblodjanfkaaGreatDoor
open Go.RowKit Go.Lib
theorem lf_facts (z : Int) : (letZ z ≠ 0 → lfL z escT = (letZ z, true) ∧ z ≠ 47) ∧ (letZ z = 0 → (lfL z escT).2 = false ∨ ((lfL z escT).2 = true ∧ z = 47)) := by
  rcases (by omega : z = 34 ∨ z = 92 ∨ z = 8 ∨ z = 9 ∨ z = 10 ∨ z = 12 ∨ z = 13 ∨ z = 47 ∨ (z ≠ 34 ∧ z ≠ 92 ∧ z ≠ 8 ∧ z ≠ 9 ∧ z ≠ 10 ∧ z ≠ 12 ∧ z ≠ 13 ∧ z ≠ 47)) with rfl | rfl | rfl | rfl | rfl | rfl | rfl | rfl | ⟨h1, h2, h3, h4, h5, h6, h7, h8⟩
  all_goals try decide
  have e : lfL z escT = (0, false) := by
    unfold escT
    simp only [lfL]
    rw [if_neg (by omega), if_neg (by omega), if_neg (by omega), if_neg (by omega), if_neg (by omega), if_neg (by omega), if_neg (by omega), if_neg (by omega)]
  have f : letZ z = 0 := by
    unfold letZ
    rw [if_neg (by omega), if_neg h3, if_neg h4, if_neg h5, if_neg h6, if_neg h7]
  exact ⟨fun h => absurd f h, fun _ => .inl (by rw [e])⟩
set_option maxRecDepth 100000 in
theorem jand15 : ∀ n : Fin 256, bits .and .u8 (n.val : Int) 15 = ((n.val % 16 : Nat) : Int) := by decide
set_option maxRecDepth 100000 in
set_option maxHeartbeats 16000000 in
theorem js_appendItem (B g cap : Nat) (acc : List UInt8) (x : UInt8) (w : World) (hB : B ≤ w.heap.size) (hal : acc.length ≤ 7000000)
    (hown : w.ownsRow B 5 1 (.slice (some ⟨g, 0, none⟩) acc.length cap) acc.length (u8s acc)) (hE : EscJ w) :
    Calls Tryz.prog 108 #[.slice (some ⟨g, 0, none⟩) acc.length cap, .int .u8 (x.toNat : Int)] w fun e w' => ∃ g2 cap2, e = .returned (.slice (some ⟨g2, 0, none⟩) (acc ++ itemJ x).length cap2) ∧ w'.ownsRow B 5 1 (.slice (some ⟨g2, 0, none⟩) (acc ++ itemJ x).length cap2) (acc ++ itemJ x).length (u8s (acc ++ itemJ x)) ∧ Below B w w' := by
  obtain ⟨i0, hi, hz0, hz1, hz2⟩ := info_parts jinfo_u8
  have hx8 := x.toNat_lt
  obtain ⟨z, hzx⟩ : ∃ z : Int, (x.toNat : Int) = z := ⟨_, rfl⟩
  have i2 := item_two x z hzx
  have i6 := item_six x z hzx
  have i1 := item_one x z hzx
  have cL : ∀ wx, EscJ wx → _ := fun wx => js_letterFor z wx
  obtain ⟨f1, f2⟩ := lf_facts z
  have h15 := jand15 ⟨x.toNat, hx8⟩
  simp only at h15
  rw [hzx, show ((x.toNat % 16 : Nat) : Int) = z % 16 by omega] at h15
  rw [hzx]
  have hz0' : 0 ≤ z := by omega
  have hz8 : z ≤ 255 := by omega
  have HOW := Lib.hid hown
  clear hzx hx8 hown
  by_cases hl : letZ z = 0
  · have f2 := f2 hl
    generalize lfL z escT = R at *
    obtain ⟨l, b⟩ := R
    simp only at cL f2
    by_cases h32 : z < 32
    · obtain ⟨hV, hlen⟩ := i6 hl h32
      have hb : b = false := by
        rcases f2 with h | ⟨_, h⟩
        · exact h
        · omega
      subst hb
      obtain ⟨q1, hq1⟩ : ∃ q, z / 16 = q := ⟨_, rfl⟩
      obtain ⟨q2, hq2⟩ : ∃ q, bits .and .u8 z 15 = q := ⟨_, rfl⟩
      have hx1 := fun w => hex_atZ q1 (by omega) (by omega) .u8 w
      have hx2 := fun w => hex_atZ q2 (by omega) (by omega) .u8 w
      rw [hq1, ← h15, hq2] at hV
      have HV := Lib.hid hV
      have HLEN := Lib.hid hlen
      clear i1 i2 i6 f1 f2 hl hV hlen h15
      generalize hexZ q1 = d1 at *
      generalize hexZ q2 = d2 at *
      go_enter Tryz.func108, Tryz.ntmps108
      go_wp2_with fail
      refine (cL _ hE).mono ?_
      rintro e wr ⟨rfl, b1⟩
      have z1 := b1.size
      have hown := jrow_below HOW.out b1
      have hown1 : ∀ o, (wr.alloc o).drew.ownsRow B 5 1 (.slice (some ⟨g, 0, none⟩) acc.length cap) acc.length (u8s acc) := fun o => hown.alloc o
      have hlt' := hown.lt
      clear hown
      go_wp2
      go_region_law ((refine step_append_lies _ rfl (.tmp 23) (.tmp 30) 84 rfl B 5 i0 (.int .u8 0) 1 1 Tryz.underlying84 hi hz0 hz1 hz2 rfl (by decide) (.slice (some ⟨g, 0, none⟩) acc.length cap) acc.length (u8s acc) (by simp [Act.eval]) (hown1 _) ⟨wr.heap.size, 0, none⟩ 6 6 [.int .u8 92, .int .u8 117, .int .u8 48, .int .u8 48, .int .u8 d1, .int .u8 d2] (by simp [Act.eval]) rfl (jnewsD _ _ _ _ rfl) (by intro u hu; simp at hu; rcases hu with rfl | rfl | rfl | rfl | rfl | rfl <;> rfl) (by decide) (by unfold maxLen; omega) (by omega) (by simp; omega) (wr.heap.size + 1) (by simp) ?_; intro g2 cap2 w2 hown2 hgr2 _ _))
      all_goals
        have hown3 := jrow_app HV.out rfl HLEN.out hown2
        have hb2 : Below B w w2 := (((b1.mono hB).alloc (by omega) _).drew).grown hgr2 (by simp; omega) (fun g' hg' => (hlt' g' hg').1)
        rw [show acc.length + 6 = (acc ++ itemJ x).length by rw [List.length_append, HLEN.out]]
        go_wp2
        go_ret
        exact ⟨g2, cap2, rfl, hown3, hb2⟩
    · obtain ⟨hV, hlen⟩ := i1 hl h32
      have HV := Lib.hid hV
      have HLEN := Lib.hid hlen
      rcases f2 with hb | ⟨hb, rfl⟩
      all_goals
        subst hb
        clear i1 i2 i6 f1 hl hV hlen h15
        go_enter Tryz.func108, Tryz.ntmps108
        go_wp2_with fail
        refine (cL _ hE).mono ?_
        rintro e wr ⟨rfl, b1⟩
        have z1 := b1.size
        have hown := jrow_below HOW.out b1
      · go_wp2_with (at_builtin; refine wpList_append_lies _ rfl (.tmp 32) (.tmp 34) 84 rfl B 5 i0 (.int .u8 0) 1 1 Tryz.underlying84 hi hz0 hz1 hz2 rfl (by decide) (.slice (some ⟨g, 0, none⟩) acc.length cap) acc.length (u8s acc) rfl (hown.alloc _) ⟨wr.heap.size, 0, none⟩ 1 1 [.int .u8 z] rfl rfl (jnews _ _ _ _ rfl) (by intro u hu; simp at hu; first | (subst hu; rfl) | (rcases hu with rfl | rfl <;> rfl)) (by decide) (by unfold maxLen; omega) (by omega) (by simp; omega) (wr.heap.size + 1) (by simp) ?_; intro g2 cap2 w2 hown2 hgr2 _ _)
        have hown3 := jrow_app HV.out rfl HLEN.out hown2
        have hb2 : Below B w w2 := ((b1.mono hB).alloc (by omega) _).grown hgr2 (by simp; omega) (fun g' hg' => (hown.lt g' hg').1)
        rw [show acc.length + 1 = (acc ++ itemJ x).length by rw [List.length_append, HLEN.out]]
        go_wp2
        go_ret
        exact ⟨g2, cap2, rfl, hown3, hb2⟩
      · go_wp2_with (at_builtin; refine wpList_append_lies _ rfl (.tmp 32) (.tmp 34) 84 rfl B 5 i0 (.int .u8 0) 1 1 Tryz.underlying84 hi hz0 hz1 hz2 rfl (by decide) (.slice (some ⟨g, 0, none⟩) acc.length cap) acc.length (u8s acc) rfl (hown.alloc _) ⟨wr.heap.size, 0, none⟩ 1 1 [.int .u8 47] rfl rfl (jnews _ _ _ _ rfl) (by intro u hu; simp at hu; first | (subst hu; rfl) | (rcases hu with rfl | rfl <;> rfl)) (by decide) (by unfold maxLen; omega) (by omega) (by simp; omega) (wr.heap.size + 1) (by simp) ?_; intro g2 cap2 w2 hown2 hgr2 _ _)
        have hown3 := jrow_app HV.out rfl HLEN.out hown2
        have hb2 : Below B w w2 := ((b1.mono hB).alloc (by omega) _).grown hgr2 (by simp; omega) (fun g' hg' => (hown.lt g' hg').1)
        rw [show acc.length + 1 = (acc ++ itemJ x).length by rw [List.length_append, HLEN.out]]
        go_wp2
        go_ret
        exact ⟨g2, cap2, rfl, hown3, hb2⟩
  · obtain ⟨hV, hlen⟩ := i2 hl
    obtain ⟨e1, e2⟩ := f1 hl
    rw [e1] at cL
    have HV := Lib.hid hV
    have HLEN := Lib.hid hlen
    clear i1 i2 i6 f1 f2 hV hlen h15 e1
    have hnb : (z != 47) = true := by simpa using e2
    generalize letZ z = lz at *
    go_enter Tryz.func108, Tryz.ntmps108
    go_wp2_with fail
    refine (cL _ hE).mono ?_
    rintro e wr ⟨rfl, b1⟩
    have z1 := b1.size
    have hown := jrow_below HOW.out b1
    go_wp2_with (at_builtin; refine wpList_append_lies _ rfl (.tmp 17) (.tmp 19) 84 rfl B 5 i0 (.int .u8 0) 1 1 Tryz.underlying84 hi hz0 hz1 hz2 rfl (by decide) (.slice (some ⟨g, 0, none⟩) acc.length cap) acc.length (u8s acc) rfl (hown.alloc _) ⟨wr.heap.size, 0, none⟩ 2 2 [.int .u8 92, .int .u8 lz] rfl rfl (jnews _ _ _ _ rfl) (by intro u hu; simp at hu; first | (subst hu; rfl) | (rcases hu with rfl | rfl <;> rfl)) (by decide) (by unfold maxLen; omega) (by omega) (by simp; omega) (wr.heap.size + 1) (by simp) ?_; intro g2 cap2 w2 hown2 hgr2 _ _)
    have hown3 := jrow_app HV.out rfl HLEN.out hown2
    have hb2 : Below B w w2 := ((b1.mono hB).alloc (by omega) _).grown hgr2 (by simp; omega) (fun g' hg' => (hown.lt g' hg').1)
    rw [show acc.length + 2 = (acc ++ itemJ x).length by rw [List.length_append, HLEN.out]]
    go_wp2
    go_ret
    exact ⟨g2, cap2, rfl, hown3, hb2⟩
theorem js_ValidString (s : ByteArray) (w : World) (hs : s.size ≤ 1000000) (hT : HasUtf8 w) : Calls Tryz.prog 94 #[.string s] w fun e w' => e = .returned (.bool (vaL s.data.toList)) ∧ Below w.heap.size w w' := by
  rw [← validD_eq]
  exact Any.utf8_ValidString Tryz.lays196 s w (by omega) hT
theorem EscJ_of {w w' : World} (h : EscJ w) (hb : Below w.heap.size w w') : EscJ w' := EscJ_below h hb
set_option maxRecDepth 100000 in
set_option maxHeartbeats 16000000 in
theorem js_QuoteE (s : ByteArray) (w : World) (hs : s.size ≤ 1000000) (hU : HasUtf8 w) (hE : EscJ w) :
    Calls Tryz.prog 100 #[.string s] w fun e w' => e = .returned (.tuple #[.string (ofBytes (quoteP s.data.toList).1), .int .i64 (quoteP s.data.toList).2]) ∧ Below w.heap.size w w' := by
  obtain ⟨i0, hi, hz0, hz1, hz2⟩ := info_parts jinfo_u8
  have HSL := Lib.hid (show s.data.toList.length = s.size by simp)
  have cV : ∀ wx, HasUtf8 wx → _ := fun wx => js_ValidString s wx hs
  have hq := quoteP.eq_1 s.data.toList
  rcases hv : vaL s.data.toList with _ | _
  · rw [hv] at cV
    rw [hv, if_neg (by decide)] at hq
    have HQ := Lib.hid hq
    clear hq hv hE
    go_enter Tryz.func100, Tryz.ntmps100
    go_wp2_with fail
    refine (cV _ hU).mono ?_
    rintro e w1 ⟨rfl, b1⟩
    go_wp2
    exact bodyPost_ret (v := .tuple #[.string (ofBytes []), .int .i64 5]) (by simp [results, Tryz.results100, go_sem]; rfl) rfl ⟨jretQ HQ.out rfl, b1⟩
  · rw [hv] at cV
    rw [hv, if_pos rfl] at hq
    have HQ := Lib.hid hq
    clear hq hv
    obtain ⟨B, hBw⟩ : ∃ B, B = w.heap.size := ⟨_, rfl⟩
    have cA : ∀ (g cap : Nat) (acc : List UInt8) (x : UInt8) (wx : World), Below B w wx → acc.length ≤ 7000000 → wx.ownsRow B 5 1 (.slice (some ⟨g, 0, none⟩) acc.length cap) acc.length (u8s acc) → _ := fun g cap acc x wx hb hl ho => js_appendItem B g cap acc x wx (by rw [hBw]; rw [hBw] at hb; exact hb.size) hl ho (EscJ_of hE (by rw [← hBw]; exact hb))
    have hU2 := hU
    clear hE
    go_enter Tryz.func100, Tryz.ntmps100
    go_wp2_with fail
    refine (cV _ hU).mono ?_
    rintro e w1 ⟨rfl, b1⟩
    have z1 := b1.size
    rw [← hBw] at z1 b1
    go_wp2_with (first
      | (refine wpList_make_own _ rfl (.const (.int .i64 0)) (.tmp 11) 84 rfl B 5 i0 (.int .u8 0) 1 Tryz.underlying84 hi hz0 hz1 .i64 .i64 _ (s.size + 2) rfl rfl (by omega) (by rw [hz2]; omega) (by unfold maxLen; omega) z1 ?_; intro wr hown hgr; have hbel : Below B w wr := b1.grown hgr z1 (fun k h => by cases h); have hz : B ≤ wr.heap.size := (by have := hbel.size; omega); have hwz : (wr.alloc (.cells #[.int .u8 34] 5)).heap.size = wr.heap.size + 1 := (by simp); clear hgr)
      | (at_builtin; refine wpList_append_lies _ rfl (.tmp 13) (.tmp 14) 84 rfl B 5 i0 (.int .u8 0) 1 1 Tryz.underlying84 hi hz0 hz1 hz2 rfl (by decide) (.slice (some ⟨w1.heap.size, 0, none⟩) 0 (s.size + 2)) 0 [] rfl (hown.alloc _) ⟨wr.heap.size, 0, none⟩ 1 1 [.int .u8 34] rfl rfl (jnews _ _ _ _ rfl) (by intro u hu; simp at hu; subst hu; rfl) (by decide) (by unfold maxLen; omega) (by omega) (by rw [hwz]; omega) (wr.heap.size + 1) hwz ?_; intro g2 cap2 w2 hown2 hgr2 _ _))
    have hb2 : Below B w w2 := (hbel.alloc hz _).grown hgr2 (by simp; omega) (fun g' hg' => (hown.lt g' hg').1)
    have hown3 : w2.ownsRow B 5 1 (.slice (some ⟨g2, 0, none⟩) 1 cap2) 1 (u8s [34]) := hown2
    clear hown hown2 hgr2 hbel hz hwz
    go_loopw [4, 5, 18] (fun v _ q wr => ∃ (k : Nat) (acc : List UInt8) (g cap : Nat), k ≤ s.size ∧ q = .int .i64 k ∧ v = .slice (some ⟨g, 0, none⟩) acc.length cap ∧ wr.ownsRow B 5 1 (.slice (some ⟨g, 0, none⟩) acc.length cap) acc.length (u8s acc) ∧ (quoteJ s.data.toList = acc ++ (itemsJ (s.data.toList.drop k) ++ [34]) ∧ acc.length ≤ 6 * k + 1) ∧ Below B w wr) (fun _ _ q _ => s.size - (RowKit.intOf q).toNat)
    case atStart => exact ⟨0, [34], g2, cap2, by omega, rfl, rfl, hown3, ⟨rfl, by simp⟩, hb2⟩
    case round =>
      obtain ⟨k, acc, g, cap, hk, rfl, rfl, hown, ⟨hrel, hal⟩, hbel⟩ := hrel
      have hz := hbel.size
      have hBz : B ≤ wr.heap.size := by omega
      clear hown3 hb2
      by_cases hlt : k < s.size
      · have hkl : k < s.data.toList.length := by have := HSL.out; omega
        have hg : s.data.toList.getD k 0 = s.data.toList[k] := by rw [List.getD_eq_getElem?_getD, List.getElem?_eq_getElem hkl]; rfl
        have hix := jix s .i64 (k : Int) k rfl hlt
        rw [List.drop_eq_getElem_cons hkl, ← hg, itemsJ_cons, List.append_assoc, ← List.append_assoc acc] at hrel
        generalize s.data.toList.getD k 0 = x at *
        have hkz : (k : Int) < (s.size : Int) := by omega
        have cA := cA g cap acc x wr hbel (by omega) hown
        have hil := itemJ_len x
        have hal2 : (acc ++ itemJ x).length ≤ 6 * (k + 1) + 1 := by rw [List.length_append]; omega
        have HR := Lib.hid hrel
        have HAL := Lib.hid hal2
        clear hrel hg hkl hil hal2 hal hown
        generalize acc ++ itemJ x = acc2 at *
        generalize (x.toNat : Int) = z at *
        go_wp2_with fail
        refine cA.mono ?_
        rintro e w3 ⟨g3, cap3, rfl, hown3, b3⟩
        have hb3 := hbel.trans b3
        clear cA
        go_wp2
        go_roundw
        case rel => exact ⟨k + 1, acc2, g3, cap3, by omega, by go_num, rfl, hown3, ⟨HR.out, HAL.out⟩, hb3⟩
        case measure => simp [RowKit.intOf]; omega
      · obtain rfl : k = s.size := by omega
        rw [List.drop_eq_nil_of_le (by have := HSL.out; omega), show itemsJ [] = [] from rfl, List.nil_append] at hrel
        have HR := Lib.hid hrel
        clear hrel cA
        go_wp2_with (at_builtin; refine wpList_append_lies _ rfl (.tmp 27) (.tmp 28) 84 rfl B 5 i0 (.int .u8 0) 1 1 Tryz.underlying84 hi hz0 hz1 hz2 rfl (by decide) (.slice (some ⟨g, 0, none⟩) acc.length cap) acc.length (u8s acc) rfl (hown.alloc _) ⟨wr.heap.size, 0, none⟩ 1 1 [.int .u8 34] rfl rfl (jnews _ _ _ _ rfl) (by intro u hu; simp at hu; first | (subst hu; rfl) | (rcases hu with rfl | rfl <;> rfl)) (by decide) (by unfold maxLen; omega) (by omega) (by simp; omega) (wr.heap.size + 1) (by simp) ?_; intro g2 cap2 w2 hown2 hgr2 _ _)
        have hown3 := jrow_app (l := [34]) rfl rfl rfl hown2
        have hb2 : Below B w w2 := (hbel.alloc hBz _).grown hgr2 (by simp; omega) (fun g' hg' => (hown.lt g' hg').1)
        have hconv := convert_own (P := Tryz.prog) (w := w2) (src := 84) (dst := 9) Tryz.underlying84 Tryz.underlying5 Tryz.underlying9 hown3
        rw [show (acc ++ [(34 : UInt8)]).length = acc.length + 1 by simp, ← HR.out] at hconv
        clear hown2 hown3
        go_wp2_with (rw [hconv])
        exact bodyPost_ret (v := .tuple #[.string (ofBytes (quoteJ s.data.toList)), .int .i64 0]) (by simp [results, Tryz.results100, go_sem]) rfl ⟨jretQ HQ.out rfl, by rw [← hBw]; exact hb2⟩
end Go.Proofs.YtggfblodjanfkaaGreatDoor
end
