/- Package rfc822: lower, yearDigits, dayDigits, clock, zones, offset, isWeekday, monthDigits: what each returns. -/
import Derived.Test.YtdbpkggjnmapiaaDoorRow
import Derived.Test.YtdbpkggjnmapiaaDoorRfcU
import Derived.Test.YtdbpkggjnmapiaaDoorDatC
import Derived.Lib.Bytes
import Derived.Test.YtdbpkggjnmapiaaDoorStrK
import Derived.Maps.Views
import Derived.Maps.StringElems
import Derived.Deep.QuietTactic
import Derived.BigQuiet
import Derived.Test.YtdbpkggjnmapiaaDoorShelf
namespace Go.Proofs.YtdbpkggjnmapiaaDoor
open Go.RowKit

set_option maxRecDepth 100000 in
set_option maxHeartbeats 4000000 in
theorem rfd_lower (s : ByteArray) (w : World) (hs : s.size ≤ 70368744177664) :
    Calls Tryd.prog 25 #[.string s] w fun e w' => e = .returned (.string (ofBytes (s.data.toList.map low8))) ∧ Below w.heap.size w w' := by
  have hcv := Lib.run_convert_string_bytes (P := Tryd.prog) w 9 42 5 s Tryd.underlying9 Tryd.underlying42 Tryd.underlying5
  have hrow := RowAt.conv w 5 s
  have hcb := conv_below w 5 s
  have hlt1 : w.heap.size < (Lib.bytesWorld w 5 s).heap.size := by rw [Lib.bytesWorld_size]; omega
  have hYl : s.data.toList.length = s.size := by simp
  generalize Lib.bytesWorld w 5 s = w1 at *
  generalize Go.grownCap w s.size 0 5 = cp at *
  generalize s.data.toList = Y at *
  have HYL := Lib.hid hYl
  clear hYl
  have hsz : (s.size : Int) ≤ 70368744177664 := by omega
  go_enter Tryd.func25, Tryd.ntmps25
  go_wp2
  go_loopw [10] (fun q wx => ∃ n : Nat, n ≤ s.size ∧ q = .int .i64 n ∧ RowAt wx w.heap.size (rowF low8 Y n) ∧ Below w.heap.size w wx) (fun q _ => s.size - (intOf q).toNat)
  case atStart => exact ⟨0, by omega, rfl, hrow, hcb⟩
  case round =>
    obtain ⟨n, hn, rfl, hra, hrb⟩ := hrel
    by_cases hnl : n < s.size
    · have hnz : (n : Int) < (s.size : Int) := by omega
      have hnY : n < Y.length := by rw [HYL.out]; exact hnl
      have hld := (hra n (by rw [rowF_len]; exact hnY)).1
      have hfz := (hra n (by rw [rowF_len]; exact hnY)).2
      rw [rowF_at low8 Y n hnY] at hld
      obtain ⟨x, hx⟩ : ∃ x, Y[n] = x := ⟨_, rfl⟩
      rw [hx] at hld
      by_cases hl : 65 ≤ x.toNat ∧ x.toNat ≤ 90
      · have hy : ((low8 x).toNat : Int) = (x.toNat : Int) + 32 := by rw [low8_yes x hl]; omega
        have h1 : (65 : Int) ≤ (x.toNat : Int) := by omega
        have h2 : (x.toNat : Int) ≤ 90 := by omega
        have hset : ∀ v : Int, v = (x.toNat : Int) + 32 → RowAt (wr.setCell ⟨w.heap.size, n, none⟩ (.int .u8 v)) w.heap.size (rowF low8 Y (n + 1)) := by
          intro v hv
          have := hra.set (k := n) (by rw [rowF_len]; exact hnY) (low8 x)
          rw [← hx, rowF_set low8 Y n hnY, hx, hy] at this
          rw [hv]; exact this
        have HSET := Lib.hid hset
        have hrb2 : ∀ v : Int, Below w.heap.size w (wr.setCell ⟨w.heap.size, n, none⟩ (.int .u8 v)) := fun v => hrb.setCell (p := ⟨w.heap.size, n, none⟩) (Nat.le_refl _) _
        have HRB := Lib.hid hrb2
        clear hset hl hy hra hrb2 hx
        generalize hxi : (x.toNat : Int) = xi at *
        go_wp2
        go_roundw
        case rel => exact ⟨n + 1, by omega, by go_num, HSET.out _ (by omega), HRB.out _⟩
        case measure => simp [intOf]; omega
      · have R := rowF_same low8 Y n hnY (by rw [hx]; exact low8_no x hl)
        rw [R] at hra
        have HRA := Lib.hid hra
        clear hra R hx
        rcases (by omega : x.toNat < 65 ∨ (65 ≤ x.toNat ∧ 90 < x.toNat)) with h | ⟨h, h'⟩
        · have h1 : (x.toNat : Int) < 65 := by omega
          clear hl h
          generalize hxi : (x.toNat : Int) = xi at *
          go_wp2
          go_roundw
          case rel => exact ⟨n + 1, by omega, by go_num, HRA.out, hrb⟩
          case measure => simp [intOf]; omega
        · have h1 : ¬ (x.toNat : Int) ≤ 90 := by omega
          have h2 : (65 : Int) ≤ (x.toNat : Int) := by omega
          clear hl h h'
          generalize hxi : (x.toNat : Int) = xi at *
          go_wp2
          go_roundw
          case rel => exact ⟨n + 1, by omega, by go_num, HRA.out, hrb⟩
          case measure => simp [intOf]; omega
    · obtain rfl : n = s.size := by omega
      have hback := hra.back (P := Tryd.prog) (cap := cp) (src := 42) (dst := 9) Tryd.underlying42 Tryd.underlying5 Tryd.underlying9
      have he : rowF low8 Y s.size = Y.map low8 := by rw [← HYL.out]; exact rowF_end low8 Y
      rw [he, List.length_map, HYL.out] at hback
      clear hra he
      go_wp2
      go_ret
      exact ⟨rfl, hrb⟩
end Go.Proofs.YtdbpkggjnmapiaaDoor

namespace Go.Proofs.YtdbpkggjnmapiaaDoor
open Go.RowKit

theorem less_wz : ∀ l m : List UInt8, Op.bytesLess l m = ltZ (wz l) (wz m)
  | _, [] => by simp [Op.bytesLess, ltZ, wz]
  | [], _ :: _ => by simp [Op.bytesLess, ltZ, wz]
  | a :: x, b :: y => by
    have ih := less_wz x y
    rw [wz_cons, wz_cons, ltZ_cons, ← ih]
    simp only [Op.bytesLess]
    have e1 : (a < b) ↔ ((a.toNat : Int) < (b.toNat : Int)) := by rw [UInt8.lt_iff_toNat_lt]; omega
    have e2 : (a == b) = ((a.toNat : Int) == (b.toNat : Int)) := by
      rw [Bool.eq_iff_iff, beq_iff_eq, beq_iff_eq, ← UInt8.toNat_inj]; omega
    rw [e2]
    simp [e1]
theorem bytes_app (a : List UInt8) (s : ByteArray) : (⟨a.toArray⟩ : ByteArray) ++ s = ofBytes (a ++ s.data.toList) := by
  apply str_ext
  rw [ofBytes_list]
  simp
theorem app_bytes (a : List UInt8) (s : ByteArray) : s ++ (⟨a.toArray⟩ : ByteArray) = ofBytes (s.data.toList ++ a) := by
  apply str_ext
  rw [ofBytes_list]
  simp
theorem str_len (s : ByteArray) : s.data.toList.length = s.size := by simp

theorem rfd_year (s : ByteArray) (w : World) (hs : s.size ≤ 70368744177664) :
    Calls Tryd.prog 28 #[.string s] w fun e w' => e = .returned (.string (ofBytes (yrS s.data.toList))) ∧ w = w' := by
  have hsz : (s.size : Int) ≤ 70368744177664 := by omega
  by_cases h4 : s.size = 4
  · have HS := Lib.hid (show ofBytes (yrS s.data.toList) = s by unfold yrS; rw [if_pos (by rw [str_len]; exact h4), ofBytes_data])
    have hz : (s.size : Int) = 4 := by omega
    clear h4
    go_enter Tryd.func28, Tryd.ntmps28
    go_wp2
    go_ret
    exact ⟨retS1 HS.out.symm, rfl⟩
  · by_cases h2 : s.size = 2
    · have hz : (s.size : Int) = 2 := by omega
      have hl : ltZ (wz s.data.toList) [53, 48] = Op.bytesLess s.toList [53, 48] := by rw [ByteArray.toList_eq, less_wz]; rfl
      rcases hb : Op.bytesLess s.toList [53, 48] with _ | _
      · have HS := Lib.hid (show ofBytes (yrS s.data.toList) = ⟨#[49, 57]⟩ ++ s by
          unfold yrS
          rw [if_neg (by rw [str_len]; exact h4), if_neg (by rw [str_len]; omega), hl, hb, if_neg (by decide)]
          exact (bytes_app [49, 57] s).symm)
        clear h4 h2 hl
        go_enter Tryd.func28, Tryd.ntmps28
        go_wp2
        go_ret
        exact ⟨retS1 HS.out.symm, rfl⟩
      · have HS := Lib.hid (show ofBytes (yrS s.data.toList) = ⟨#[50, 48]⟩ ++ s by
          unfold yrS
          rw [if_neg (by rw [str_len]; exact h4), if_neg (by rw [str_len]; omega), hl, hb, if_pos rfl]
          exact (bytes_app [50, 48] s).symm)
        clear h4 h2 hl
        go_enter Tryd.func28, Tryd.ntmps28
        go_wp2
        go_ret
        exact ⟨retS1 HS.out.symm, rfl⟩
    · have HS := Lib.hid (show ofBytes (yrS s.data.toList) = ⟨#[]⟩ by unfold yrS; rw [if_neg (by rw [str_len]; exact h4), if_pos (by rw [str_len]; exact h2)]; rfl)
      have n4 : ((s.size : Int) == 4) = false := by simp; omega
      have n2 : ((s.size : Int) != 2) = true := by simp; omega
      clear h4 h2
      go_enter Tryd.func28, Tryd.ntmps28
      go_wp2
      go_ret
      exact ⟨retS1 HS.out.symm, rfl⟩
theorem rfd_day (s : ByteArray) (w : World) (hs : s.size ≤ 70368744177664) :
    Calls Tryd.prog 30 #[.string s] w fun e w' => e = .returned (.string (ofBytes (dyS s.data.toList))) ∧ w = w' := by
  have hsz : (s.size : Int) ≤ 70368744177664 := by omega
  by_cases h1 : s.size = 1
  · have HS := Lib.hid (show ofBytes (dyS s.data.toList) = ⟨#[48]⟩ ++ s by unfold dyS; rw [if_pos (by rw [str_len]; exact h1)]; exact (bytes_app [48] s).symm)
    have hz : (s.size : Int) = 1 := by omega
    clear h1
    go_enter Tryd.func30, Tryd.ntmps30
    go_wp2
    go_ret
    exact ⟨retS1 HS.out.symm, rfl⟩
  · by_cases h2 : s.size = 2
    · have HS := Lib.hid (show ofBytes (dyS s.data.toList) = s by unfold dyS; rw [if_neg (by rw [str_len]; exact h1), if_pos (by rw [str_len]; exact h2), ofBytes_data])
      have hz : (s.size : Int) = 2 := by omega
      clear h1 h2
      go_enter Tryd.func30, Tryd.ntmps30
      go_wp2
      go_ret
      exact ⟨retS1 HS.out.symm, rfl⟩
    · have HS := Lib.hid (show ofBytes (dyS s.data.toList) = ⟨#[]⟩ by unfold dyS; rw [if_neg (by rw [str_len]; exact h1), if_neg (by rw [str_len]; exact h2)]; rfl)
      have n1 : ((s.size : Int) == 1) = false := by simp; omega
      have n2 : ((s.size : Int) == 2) = false := by simp; omega
      clear h1 h2
      go_enter Tryd.func30, Tryd.ntmps30
      go_wp2
      go_ret
      exact ⟨retS1 HS.out.symm, rfl⟩
theorem rfd_clock (s : ByteArray) (w : World) (hs : s.size ≤ 70368744177664) :
    Calls Tryd.prog 32 #[.string s] w fun e w' => e = .returned (.string (ofBytes (clS s.data.toList))) ∧ w = w' := by
  have hsz : (s.size : Int) ≤ 70368744177664 := by omega
  by_cases h1 : s.size = 5
  · have HS := Lib.hid (show ofBytes (clS s.data.toList) = s ++ ⟨#[58, 48, 48]⟩ by unfold clS; rw [if_pos (by rw [str_len]; exact h1)]; exact (app_bytes [58, 48, 48] s).symm)
    have hz : (s.size : Int) = 5 := by omega
    clear h1
    go_enter Tryd.func32, Tryd.ntmps32
    go_wp2
    go_ret
    exact ⟨retS1 HS.out.symm, rfl⟩
  · by_cases h2 : s.size = 8
    · have HS := Lib.hid (show ofBytes (clS s.data.toList) = s by unfold clS; rw [if_neg (by rw [str_len]; exact h1), if_pos (by rw [str_len]; exact h2), ofBytes_data])
      have hz : (s.size : Int) = 8 := by omega
      clear h1 h2
      go_enter Tryd.func32, Tryd.ntmps32
      go_wp2
      go_ret
      exact ⟨retS1 HS.out.symm, rfl⟩
    · have HS := Lib.hid (show ofBytes (clS s.data.toList) = ⟨#[]⟩ by unfold clS; rw [if_neg (by rw [str_len]; exact h1), if_neg (by rw [str_len]; exact h2)]; rfl)
      have n1 : ((s.size : Int) == 5) = false := by simp; omega
      have n2 : ((s.size : Int) == 8) = false := by simp; omega
      clear h1 h2
      go_enter Tryd.func32, Tryd.ntmps32
      go_wp2
      go_ret
      exact ⟨retS1 HS.out.symm, rfl⟩
end Go.Proofs.YtdbpkggjnmapiaaDoor

namespace Go.Proofs.YtdbpkggjnmapiaaDoor
open Go.RowKit Go.Maps

/-- The store of a map literal's entry into a map that the call itself has made. -/
theorem wp_insert_own {H : Type} {P : Program} (w : World) {ops : Array Oper} {rest : List Oper} {o : Oper} {a : Act} {Q : Exit → Act → World → Prop}
    (hg : o.guard = none) (m x v : Operand) (t : TypeId) (hop : o.op = Op.insert t m x v)
    (k e : TypeId) (K : Keyed P k) (ht : P.underlying t = some (.map k e)) (R : Value → Option (DataW H × List MemPlace)) (b n : Nat) (D : DataW H)
    (hm : a.eval m = .map (some b)) (hown : w.ownsMap P k R b n D) (hn : n < maxLen) (key val : Value) (kl : Lit) (hx : a.eval x = key) (hv : a.eval v = val) (hkey : keyOf P k key = some kl)
    (d : DataW H) (ps : List MemPlace) (hval : R val = some (d, ps))
    (hK : ∀ w', w'.ownsMap P k R b (n + 1) (D.put kl d) → w.grownBy w' (some b) → wpList P ops Q rest (a.put o.dst undef) w') :
    wpList P ops Q (o :: rest) a w := by
  refine wpList_plain hg fun K' hK' => ?_
  obtain ⟨w', hrun, r1, r2⟩ := hown.update K ht hn hkey hval
  unfold Oper.wp
  simp [execOp, hop, hm, hx, hv, hrun, Result.andThen]
  exact hK' _ _ (hK w' r1 r2)

def zoneD : Nat → DataW Unit
  | 0 => .map []
  | k + 1 => (zoneD k).put (.string (zoneN k)) (.lit (.string (zoneT k)))
theorem zoneD_map : ∀ k, IsMap (zoneD k)
  | 0 => isMap_empty
  | k + 1 => (zoneD_map k).put _ _
theorem str_keyLit (w : List UInt8) : WideAt.IsKeyLit (.string w) := trivial
theorem zoneD_at (w : List UInt8) : ∀ k, (zoneD k).atKey (.string w) (.lit (.string [])) = .lit (.string (zoneM k w))
  | 0 => rfl
  | k + 1 => by
    rw [zoneD, zoneM]
    by_cases h : w = zoneN k
    · rw [if_pos h, h, atKey_put_same (zoneD_map k) (str_keyLit _)]
    · rw [if_neg h, atKey_put_other (by simpa using h), zoneD_at w k]
theorem law : Keyed Tryd.prog 9 := string_keyed Tryd.underlying9
theorem key_at (s : ByteArray) (k : Nat) (h : s.data.toList = zoneN k) : keyOf Tryd.prog 9 (.string s) = some (.string (zoneN k)) := by
  rw [← h]
  exact Go.WideMaps.keyOf_string_mk Tryd.underlying9 (by
    have h1 := congrArg List.length h
    have h2 : (zoneN k).length ≤ 3 := by
      rcases Nat.lt_or_ge k 12 with g | g
      · have : ∀ j : Fin 12, (zoneN j.val).length ≤ 3 := by decide
        exact this ⟨k, g⟩
      · unfold zoneN
        rw [Array.getD_eq_getD_getElem?, Array.getElem?_eq_none (by simp; omega)]
        decide
    rw [str_len] at h1
    unfold maxLen; omega)
theorem val_at (s : ByteArray) (k : Nat) (h : s.data.toList = zoneT k) : plainElem (H := Unit) Tryd.prog 9 (.string s) = some (.lit (.string (zoneT k)), []) := by
  rw [← h]
  exact plainElem_string Tryd.underlying9 (by
    have h1 := congrArg List.length h
    have h2 : (zoneT k).length ≤ 6 := by
      rcases Nat.lt_or_ge k 12 with g | g
      · have : ∀ j : Fin 12, (zoneT j.val).length ≤ 6 := by decide
        exact this ⟨k, g⟩
      · unfold zoneT
        rw [Array.getD_eq_getD_getElem?, Array.getElem?_eq_none (by simp; omega)]
        decide
    rw [str_len] at h1
    unfold maxLen; omega)
def zonesOf (w : World) (b : Nat) : Prop := w.ownsMap Tryd.prog 9 (plainElem Tryd.prog 9) b 12 (zoneD 12)
theorem grown_below {w w1 w2 : World} (h : Below w.heap.size w w1) (hg : w1.grownBy w2 (some w.heap.size)) : Below w.heap.size w w2 := h.grown hg h.size (fun j hj => by cases hj; exact Nat.le_refl _)

set_option maxRecDepth 100000 in
set_option maxHeartbeats 4000000 in
theorem rfd_zones (w : World) :
    Calls Tryd.prog 61 #[] w fun e w' => e = .returned (.map (some w.heap.size)) ∧ zonesOf w' w.heap.size ∧ Below w.heap.size w w' := by
  have hmm := @run_makeMap Tryd.prog
  have hown0 := World.ownsMap_made (H := Unit) w Tryd.prog 9 (plainElem Tryd.prog 9)
  go_enter Tryd.func61, Tryd.ntmps61
  go_wp2_with (first | (refine wp_insert_own _ rfl _ _ _ 88 rfl 9 9 law Tryd.underlying88 (plainElem Tryd.prog 9) w.heap.size 0 (zoneD 0) rfl hown0 (by decide) (.string ⟨#[117, 116]⟩) (.string ⟨#[90]⟩) (.string (zoneN 0)) rfl rfl (key_at ⟨#[117, 116]⟩ 0 rfl) (.lit (.string (zoneT 0))) [] (val_at ⟨#[90]⟩ 0 rfl) ?_; intro w1 hown1 hg1) | (refine wp_insert_own _ rfl _ _ _ 88 rfl 9 9 law Tryd.underlying88 (plainElem Tryd.prog 9) w.heap.size 1 (zoneD 1) rfl hown1 (by decide) (.string ⟨#[117, 116, 99]⟩) (.string ⟨#[90]⟩) (.string (zoneN 1)) rfl rfl (key_at ⟨#[117, 116, 99]⟩ 1 rfl) (.lit (.string (zoneT 1))) [] (val_at ⟨#[90]⟩ 1 rfl) ?_; intro w2 hown2 hg2) | (refine wp_insert_own _ rfl _ _ _ 88 rfl 9 9 law Tryd.underlying88 (plainElem Tryd.prog 9) w.heap.size 2 (zoneD 2) rfl hown2 (by decide) (.string ⟨#[103, 109, 116]⟩) (.string ⟨#[90]⟩) (.string (zoneN 2)) rfl rfl (key_at ⟨#[103, 109, 116]⟩ 2 rfl) (.lit (.string (zoneT 2))) [] (val_at ⟨#[90]⟩ 2 rfl) ?_; intro w3 hown3 hg3) | (refine wp_insert_own _ rfl _ _ _ 88 rfl 9 9 law Tryd.underlying88 (plainElem Tryd.prog 9) w.heap.size 3 (zoneD 3) rfl hown3 (by decide) (.string ⟨#[122]⟩) (.string ⟨#[90]⟩) (.string (zoneN 3)) rfl rfl (key_at ⟨#[122]⟩ 3 rfl) (.lit (.string (zoneT 3))) [] (val_at ⟨#[90]⟩ 3 rfl) ?_; intro w4 hown4 hg4) | (refine wp_insert_own _ rfl _ _ _ 88 rfl 9 9 law Tryd.underlying88 (plainElem Tryd.prog 9) w.heap.size 4 (zoneD 4) rfl hown4 (by decide) (.string ⟨#[101, 115, 116]⟩) (.string ⟨#[45, 48, 53, 58, 48, 48]⟩) (.string (zoneN 4)) rfl rfl (key_at ⟨#[101, 115, 116]⟩ 4 rfl) (.lit (.string (zoneT 4))) [] (val_at ⟨#[45, 48, 53, 58, 48, 48]⟩ 4 rfl) ?_; intro w5 hown5 hg5) | (refine wp_insert_own _ rfl _ _ _ 88 rfl 9 9 law Tryd.underlying88 (plainElem Tryd.prog 9) w.heap.size 5 (zoneD 5) rfl hown5 (by decide) (.string ⟨#[101, 100, 116]⟩) (.string ⟨#[45, 48, 52, 58, 48, 48]⟩) (.string (zoneN 5)) rfl rfl (key_at ⟨#[101, 100, 116]⟩ 5 rfl) (.lit (.string (zoneT 5))) [] (val_at ⟨#[45, 48, 52, 58, 48, 48]⟩ 5 rfl) ?_; intro w6 hown6 hg6) | (refine wp_insert_own _ rfl _ _ _ 88 rfl 9 9 law Tryd.underlying88 (plainElem Tryd.prog 9) w.heap.size 6 (zoneD 6) rfl hown6 (by decide) (.string ⟨#[99, 115, 116]⟩) (.string ⟨#[45, 48, 54, 58, 48, 48]⟩) (.string (zoneN 6)) rfl rfl (key_at ⟨#[99, 115, 116]⟩ 6 rfl) (.lit (.string (zoneT 6))) [] (val_at ⟨#[45, 48, 54, 58, 48, 48]⟩ 6 rfl) ?_; intro w7 hown7 hg7) | (refine wp_insert_own _ rfl _ _ _ 88 rfl 9 9 law Tryd.underlying88 (plainElem Tryd.prog 9) w.heap.size 7 (zoneD 7) rfl hown7 (by decide) (.string ⟨#[99, 100, 116]⟩) (.string ⟨#[45, 48, 53, 58, 48, 48]⟩) (.string (zoneN 7)) rfl rfl (key_at ⟨#[99, 100, 116]⟩ 7 rfl) (.lit (.string (zoneT 7))) [] (val_at ⟨#[45, 48, 53, 58, 48, 48]⟩ 7 rfl) ?_; intro w8 hown8 hg8) | (refine wp_insert_own _ rfl _ _ _ 88 rfl 9 9 law Tryd.underlying88 (plainElem Tryd.prog 9) w.heap.size 8 (zoneD 8) rfl hown8 (by decide) (.string ⟨#[109, 115, 116]⟩) (.string ⟨#[45, 48, 55, 58, 48, 48]⟩) (.string (zoneN 8)) rfl rfl (key_at ⟨#[109, 115, 116]⟩ 8 rfl) (.lit (.string (zoneT 8))) [] (val_at ⟨#[45, 48, 55, 58, 48, 48]⟩ 8 rfl) ?_; intro w9 hown9 hg9) | (refine wp_insert_own _ rfl _ _ _ 88 rfl 9 9 law Tryd.underlying88 (plainElem Tryd.prog 9) w.heap.size 9 (zoneD 9) rfl hown9 (by decide) (.string ⟨#[109, 100, 116]⟩) (.string ⟨#[45, 48, 54, 58, 48, 48]⟩) (.string (zoneN 9)) rfl rfl (key_at ⟨#[109, 100, 116]⟩ 9 rfl) (.lit (.string (zoneT 9))) [] (val_at ⟨#[45, 48, 54, 58, 48, 48]⟩ 9 rfl) ?_; intro w10 hown10 hg10) | (refine wp_insert_own _ rfl _ _ _ 88 rfl 9 9 law Tryd.underlying88 (plainElem Tryd.prog 9) w.heap.size 10 (zoneD 10) rfl hown10 (by decide) (.string ⟨#[112, 115, 116]⟩) (.string ⟨#[45, 48, 56, 58, 48, 48]⟩) (.string (zoneN 10)) rfl rfl (key_at ⟨#[112, 115, 116]⟩ 10 rfl) (.lit (.string (zoneT 10))) [] (val_at ⟨#[45, 48, 56, 58, 48, 48]⟩ 10 rfl) ?_; intro w11 hown11 hg11) | (refine wp_insert_own _ rfl _ _ _ 88 rfl 9 9 law Tryd.underlying88 (plainElem Tryd.prog 9) w.heap.size 11 (zoneD 11) rfl hown11 (by decide) (.string ⟨#[112, 100, 116]⟩) (.string ⟨#[45, 48, 55, 58, 48, 48]⟩) (.string (zoneN 11)) rfl rfl (key_at ⟨#[112, 100, 116]⟩ 11 rfl) (.lit (.string (zoneT 11))) [] (val_at ⟨#[45, 48, 55, 58, 48, 48]⟩ 11 rfl) ?_; intro w12 hown12 hg12))
  go_ret
  exact ⟨rfl, hown12, grown_below (grown_below (grown_below (grown_below (grown_below (grown_below (grown_below (grown_below (grown_below (grown_below (grown_below (grown_below ((Below.refl _ _).alloc (Nat.le_refl _) _) hg1) hg2) hg3) hg4) hg5) hg6) hg7) hg8) hg9) hg10) hg11) hg12⟩
theorem zero_str (w : World) : (zeroValue 9).run Tryd.prog w = .ok (.string ⟨#[]⟩) w := by kernel_rfl
theorem zones_at {w : World} {b : Nat} (h : zonesOf w b) (s : ByteArray) (hs : s.size ≤ maxLen) : (Instr.lookup 88 (.map (some b)) (.string s) false).run Tryd.prog w = .ok (.string (ofBytes (zoneM 12 s.data.toList))) w := by
  obtain ⟨v, ps, hrun, hv⟩ := World.ownsMap.lookup h law Tryd.underlying88 (zero_str w) (plainElem_string Tryd.underlying9 (by decide)) (Go.WideMaps.keyOf_string_mk Tryd.underlying9 hs)
  obtain ⟨t, rfl, hz, _⟩ := plainElem_string_inv Tryd.underlying9 hv
  have hd := zoneD_at s.data.toList 12
  simp only [Prod.mk.injEq] at hz
  have h3 := Lit.string.inj (DataW.lit.inj (hz.1.symm.trans hd))
  rw [hrun, ← h3, ofBytes_data]
theorem zoS_no {s : ByteArray} (h : ¬ (s.size = 5 ∧ (s.data.toList.getD 0 0 = 43 ∨ s.data.toList.getD 0 0 = 45))) : zoS s.data.toList = zoneM 12 s.data.toList := by
  unfold zoS
  rw [if_neg]
  unfold signed
  rw [str_len]; exact h
theorem zoS_yes {s : ByteArray} (h5 : s.size = 5) (h0 : s.data.toList.getD 0 0 = 43 ∨ s.data.toList.getD 0 0 = 45) : s.extract 0 3 ++ ⟨#[58]⟩ ++ s.extract 3 s.size = ofBytes (zoS s.data.toList) := by
  apply str_ext
  rw [ofBytes_list]
  unfold zoS
  rw [if_pos (by unfold signed; rw [str_len]; exact ⟨h5, h0⟩)]
  have e2 : List.take (s.size - 3) (s.data.toList.drop 3) = s.data.toList.drop 3 := List.take_of_length_le (by rw [List.length_drop, str_len]; omega)
  simp [e2]
theorem first_at (s : ByteArray) (h : 0 < s.size) : s.data.toList.getD 0 0 = s[0]'h := by
  have : 0 < s.data.toList.length := by rw [str_len]; exact h
  rw [List.getD_eq_getElem?_getD, List.getElem?_eq_getElem this]
  simp [ByteArray.getElem_eq_getElem_data]

set_option maxRecDepth 100000 in
set_option maxHeartbeats 4000000 in
theorem rfd_offset (s : ByteArray) (w : World) (hs : s.size ≤ 1000000) :
    Calls Tryd.prog 33 #[.string s] w fun e w' => e = .returned (.string (ofBytes (zoS s.data.toList))) ∧ Below w.heap.size w w' := by
  have hsz : (s.size : Int) ≤ 1000000 := by omega
  by_cases h5 : s.size = 5
  · have h0 : 0 < s.size := by omega
    have hf := first_at s h0
    obtain ⟨y, hy⟩ : ∃ y, s[0]'h0 = y := ⟨_, rfl⟩
    rw [hy] at hf
    have hz : (s.size : Int) = 5 := by omega
    by_cases hy1 : y = 43 ∨ y = 45
    · have HS := Lib.hid (zoS_yes h5 (by rw [hf]; exact hy1))
      have hsl1 : ∀ wx, _ := fun wx => slice_to s 3 (by omega) (by omega) wx
      have hsl2 : ∀ wx, _ := fun wx => slice_from s 3 (by omega) (by omega) wx
      rw [show (3 : Int).toNat = 3 from rfl] at hsl1 hsl2
      have g1 : (s.extract 0 3).size = 3 := by rw [ByteArray.size_extract]; omega
      have g2 : (s.extract 3 s.size).size = 2 := by rw [ByteArray.size_extract]; omega
      generalize s.extract 0 3 = p1 at *
      generalize s.extract 3 s.size = p2 at *
      have g3 : (p1 ++ ⟨#[58]⟩).size = 4 := by rw [ByteArray.size_append, g1]; rfl
      rcases hy1 with rfl | rfl
      all_goals
        clear hf h5
        go_enter Tryd.func33, Tryd.ntmps33
        go_wp2
        go_quiet (fail)
        go_wp2
        go_ret
        exact ⟨retS1 HS.out, below_drewN (Below.refl _ _) _⟩
    · have HS := Lib.hid (zoS_no (s := s) (by rw [hf]; exact fun h => hy1 h.2))
      have n1 : ((y.toNat : Int) == 43) = false := by
        have : ¬ ((y.toNat : Int) = 43) := fun h => hy1 (.inl (UInt8.toNat_inj.1 (by have : (43 : UInt8).toNat = 43 := rfl; omega)))
        simpa using this
      have n2 : ((y.toNat : Int) == 45) = false := by
        have : ¬ ((y.toNat : Int) = 45) := fun h => hy1 (.inr (UInt8.toNat_inj.1 (by have : (45 : UInt8).toNat = 45 := rfl; omega)))
        simpa using this
      generalize hyi : (y.toNat : Int) = yi at *
      clear hf h5 hy1
      have cz : ∀ wx, _ := fun wx => rfd_zones wx
      go_enter Tryd.func33, Tryd.ntmps33
      go_wp2_with fail
      refine (cz _).mono ?_
      rintro e w1 ⟨rfl, hown, b1⟩
      have hat := zones_at hown s (by unfold maxLen; omega)
      go_wp2
      go_ret
      exact ⟨retS1 (by rw [HS.out]), b1⟩
  · have HS := Lib.hid (zoS_no (s := s) fun h => h5 h.1)
    have n5 : ((s.size : Int) == 5) = false := by simp; omega
    clear h5
    have cz : ∀ wx, _ := fun wx => rfd_zones wx
    go_enter Tryd.func33, Tryd.ntmps33
    go_wp2_with fail
    refine (cz _).mono ?_
    rintro e w1 ⟨rfl, hown, b1⟩
    have hat := zones_at hown s (by unfold maxLen; omega)
    go_wp2
    go_ret
    exact ⟨retS1 (by rw [HS.out]), b1⟩
end Go.Proofs.YtdbpkggjnmapiaaDoor

namespace Go.Proofs.YtdbpkggjnmapiaaDoor
open Go.RowKit

def dnm (k : Nat) : List UInt8 := (dayNames.drop (k * 3)).take 3
def mnm (k : Nat) : List UInt8 := (monthNames.drop (k * 3)).take 3
/-- The world holds the names of the days and of the months. -/
def NamT (w : World) : Prop := (∀ i, i < 7 → w.cell? ⟨1, i, none⟩ = some (.string (ofBytes (dnm i)))) ∧ ∀ i, i < 12 → w.cell? ⟨0, i, none⟩ = some (.string (ofBytes (mnm i)))
theorem NamT_below {w w' : World} (h : NamT w) (hb : Below w.heap.size w w') : NamT w' :=
  ⟨fun i hi => (hb.cell (civ_block_lt (h.1 i hi))).trans (h.1 i hi), fun i hi => (hb.cell (civ_block_lt (h.2 i hi))).trans (h.2 i hi)⟩
theorem eq_app (s : ByteArray) (a : List UInt8) : (s.toList == (ofBytes a ++ ⟨#[44]⟩).toList) = decide (s.data.toList = a ++ [44]) := by
  rw [show ofBytes a ++ (⟨#[44]⟩ : ByteArray) = ofBytes (a ++ [44]) by rw [app_bytes [44], ofBytes_list], ByteArray.toList_eq, ByteArray.toList_eq, ofBytes_list, Bool.eq_iff_iff, beq_iff_eq, decide_eq_true_eq]
theorem eq_one (s : ByteArray) (a : List UInt8) : (s.toList == (ofBytes a).toList) = decide (s.data.toList = a) := by
  rw [ByteArray.toList_eq, ByteArray.toList_eq, ofBytes_list, Bool.eq_iff_iff, beq_iff_eq, decide_eq_true_eq]

set_option maxRecDepth 100000 in
set_option maxHeartbeats 4000000 in
theorem rfd_isWeekday (s : ByteArray) (w : World) (hl : isLow s.data.toList) (hT : NamT w) :
    Calls Tryd.prog 27 #[.string s] w fun e w' => e = .returned (.bool (dayB s.data.toList)) ∧ Below w.heap.size w w' := by
  go_enter Tryd.func27, Tryd.ntmps27
  go_wp2
  go_loopw [4] (fun q wr => ∃ k : Nat, k ≤ 7 ∧ q = .int .i64 k ∧ (∀ j, j < k → s.data.toList ≠ dayL j ++ [44]) ∧ Below w.heap.size w wr) (fun q _ => 7 - (intOf q).toNat)
  case atStart => exact ⟨0, by omega, rfl, fun j hj => absurd hj (by omega), Below.refl _ _⟩
  case round =>
    obtain ⟨k, hk, rfl, hno, hbel⟩ := hrel
    have hz := hbel.size
    by_cases hlt : k < 7
    · have hkz : (k : Int) < 7 := by omega
      have hc := (NamT_below hT hbel).1 k hlt
      have hd3 : (ofBytes (dnm k)).size ≤ 70368744177664 := by rw [ofBytes_size]; unfold dnm; rw [List.length_take]; omega
      have cL : ∀ wx, _ := fun wx => rfd_lower (ofBytes (dnm k)) wx hd3
      rw [ofBytes_list, show (dnm k).map low8 = dayL k from rfl] at cL
      have hq := eq_app s (dayL k)
      have hsz : (ofBytes (dayL k)).size ≤ 3 := by rw [ofBytes_size]; unfold dayL; rw [List.length_map, List.length_take]; omega
      generalize ofBytes (dnm k) = nm at *
      by_cases he : s.data.toList = dayL k ++ [44]
      · have hd := day_k ⟨k, hlt⟩
        simp only at hd
        rw [← he] at hd
        rw [decide_eq_true he] at hq
        have HD := Lib.hid hd
        generalize ofBytes (dayL k) = q at *
        clear hd he hno hl hT
        go_wp2_with fail
        refine (cL _).mono ?_
        rintro e w1 ⟨rfl, b1⟩
        go_wp2
        go_ret
        exact ⟨retB HD.out.symm, hbel.trans (b1.mono hz)⟩
      · rw [decide_eq_false he] at hq
        have hno2 : ∀ j, j < k + 1 → s.data.toList ≠ dayL j ++ [44] := fun j hj => by
          rcases (by omega : j < k ∨ j = k) with h | rfl
          · exact hno j h
          · exact he
        have HN := Lib.hid hno2
        generalize ofBytes (dayL k) = q at *
        clear hno2 he hno hl hT
        go_wp2_with fail
        refine (cL _).mono ?_
        rintro e w1 ⟨rfl, b1⟩
        go_wp2
        go_roundw
        case rel => exact ⟨k + 1, by omega, by go_num, HN.out, hbel.trans (b1.mono hz)⟩
        case measure => simp [intOf]; omega
    · obtain rfl : k = 7 := by omega
      have HD := Lib.hid (wk_no hl hno)
      clear hno hl hT
      go_wp2
      go_ret
      exact ⟨retB HD.out.symm, hbel⟩
theorem mo_itoa (k : Nat) (hk : k < 12) : dyS (Lib.decDigits (k + 1)) = nS (d2 ((k : Int) + 1)) := by
  rcases (by omega : k + 1 < 10 ∨ (10 ≤ k + 1 ∧ k + 1 < 100)) with h | ⟨h1, h2⟩
  · rw [dd1 _ h]
    have : ∀ j : Fin 9, dyS [UInt8.ofNat (48 + (j.val + 1))] = nS (d2 ((j.val : Int) + 1)) := by decide
    exact this ⟨k, by omega⟩
  · rw [dd2 _ h1 h2]
    rcases (by omega : k = 9 ∨ k = 10 ∨ k = 11) with rfl | rfl | rfl <;> decide
theorem moS_k {w : List UInt8} {k : Nat} (hk : k < 12) (h : w = monL k) : moS w = nS (d2 ((k : Int) + 1)) := by
  have hf := mon_k ⟨k, hk⟩
  simp only at hf
  rw [← h] at hf
  unfold moS
  rw [hf, if_pos (by omega)]
theorem moS_no {w : List UInt8} (hw : isLow w) (h : ∀ k, k < 12 → w ≠ monL k) : moS w = [] := by
  unfold moS
  rw [mon_no hw h, if_neg (by decide)]
set_option maxRecDepth 100000 in
set_option maxHeartbeats 4000000 in
theorem rfd_month (s : ByteArray) (w : World) (hl : isLow s.data.toList) (hT : NamT w) :
    Calls Tryd.prog 29 #[.string s] w fun e w' => e = .returned (.string (ofBytes (moS s.data.toList))) ∧ Below w.heap.size w w' := by
  go_enter Tryd.func29, Tryd.ntmps29
  go_wp2
  go_loopw [4] (fun q wr => ∃ k : Nat, k ≤ 12 ∧ q = .int .i64 k ∧ (∀ j, j < k → s.data.toList ≠ monL j) ∧ Below w.heap.size w wr) (fun q _ => 12 - (intOf q).toNat)
  case atStart => exact ⟨0, by omega, rfl, fun j hj => absurd hj (by omega), Below.refl _ _⟩
  case round =>
    obtain ⟨k, hk, rfl, hno, hbel⟩ := hrel
    have hz := hbel.size
    by_cases hlt : k < 12
    · have hkz : (k : Int) < 12 := by omega
      have hc := (NamT_below hT hbel).2 k hlt
      have hd3 : (ofBytes (mnm k)).size ≤ 70368744177664 := by rw [ofBytes_size]; unfold mnm; rw [List.length_take]; omega
      have cL : ∀ wx, _ := fun wx => rfd_lower (ofBytes (mnm k)) wx hd3
      rw [ofBytes_list, show (mnm k).map low8 = monL k from rfl] at cL
      have hq := eq_one s (monL k)
      generalize ofBytes (mnm k) = nm at *
      by_cases he : s.data.toList = monL k
      · have hm := moS_k hlt he
        rw [decide_eq_true he] at hq
        have cI : ∀ wx, _ := fun wx => Tryd.strconv_Itoa_small (k + 1) (by omega) wx
        rw [show ((k + 1 : Nat) : Int) = (k : Int) + 1 by omega] at cI
        have hdz : (⟨(Lib.decDigits (k + 1)).toArray⟩ : ByteArray).size ≤ 70368744177664 := by
          show (Lib.decDigits (k + 1)).length ≤ _
          rcases (by omega : k + 1 < 10 ∨ (10 ≤ k + 1 ∧ k + 1 < 100)) with h | ⟨h1, h2⟩
          · rw [dd1 _ h]; simp
          · rw [dd2 _ h1 h2]; simp
        have cD : ∀ wx, _ := fun wx => rfd_day (⟨(Lib.decDigits (k + 1)).toArray⟩ : ByteArray) wx hdz
        rw [show (⟨(Lib.decDigits (k + 1)).toArray⟩ : ByteArray).data.toList = Lib.decDigits (k + 1) from rfl, mo_itoa k hlt, ← hm] at cD
        generalize (⟨(Lib.decDigits (k + 1)).toArray⟩ : ByteArray) = D at *
        generalize ofBytes (monL k) = q at *
        clear he hno hl hT hm
        go_wp2_with fail
        refine (cL _).mono ?_
        rintro e w1 ⟨rfl, b1⟩
        go_wp2_with fail
        refine (cI _).mono ?_
        rintro e w2 ⟨rfl, rfl⟩
        go_wp2_with fail
        refine (cD _).mono ?_
        rintro e w3 ⟨rfl, rfl⟩
        go_wp2
        go_ret
        exact ⟨rfl, hbel.trans (b1.mono hz)⟩
      · rw [decide_eq_false he] at hq
        have hno2 : ∀ j, j < k + 1 → s.data.toList ≠ monL j := fun j hj => by
          rcases (by omega : j < k ∨ j = k) with h | rfl
          · exact hno j h
          · exact he
        have HN := Lib.hid hno2
        generalize ofBytes (monL k) = q at *
        clear hno2 he hno hl hT
        go_wp2_with fail
        refine (cL _).mono ?_
        rintro e w1 ⟨rfl, b1⟩
        go_wp2
        go_roundw
        case rel => exact ⟨k + 1, by omega, by go_num, HN.out, hbel.trans (b1.mono hz)⟩
        case measure => simp [intOf]; omega
    · obtain rfl : k = 12 := by omega
      have HD := Lib.hid (moS_no hl hno)
      clear hno hl hT
      go_wp2
      go_ret
      exact ⟨retS1 (by rw [HD.out]; rfl), hbel⟩
end Go.Proofs.YtdbpkggjnmapiaaDoor
