/- The walk of the law of layer 5 on the round trip. -/
import Derived.Test.YtofoloidllkfaaaDoorEscL
import Derived.Test.YtofoloidllkfaaaDoorShelf
import Derived.Lib.SmallJoins
namespace Go.Proofs.YtofoloidllkfaaaDoor
open Go.RowKit

theorem idx_none : ∀ (l : List UInt8) (k : UInt8), k ∉ l → Lib.indexByte l k = -1
  | [], _, _ => rfl
  | c :: r, k, h => by
    rw [List.mem_cons, not_or] at h
    have hc : (c == k) = false := by simpa using fun e : c = k => h.1 e.symm
    rw [Lib.indexByte, hc, idx_none r k h.2]; rfl
theorem esc_IndexByte (l : List UInt8) (k : Nat) (w : World) (_hk : k < 256) (h : UInt8.ofNat k ∉ l) : Calls Tryd.prog 17 #[.string (ofBytes l), .int .u8 (k : Int)] w fun e w' => e = .returned (.int .i64 (-1)) ∧ w = w' := by
  have := Tryd.strings_IndexByte (ofBytes l) (k : Int) w
  rw [ofBytes_list, Int.toNat_natCast, show k.toUInt8 = UInt8.ofNat k from rfl, idx_none l _ h] at this
  exact this.mono fun e w' ⟨a, b⟩ => ⟨a, b.symm⟩

set_option maxRecDepth 100000 in
set_option maxHeartbeats 8000000 in
theorem walk_EscRound (s : ByteArray) (w : World) (hT : EscT w) :
    Calls Tryd.prog 6 #[.string s] w fun e w' => e = .returned (.bool true) ∧ Below w.heap.size w w' := by
  by_cases h5 : (5000 : Int) < (s.size : Int)
  · go_enter Tryd.func6, Tryd.ntmps6
    (go_wp2_with fail); (refine (esc_alive _ hT).mono ?_); (rintro e w1 ⟨rfl, b1⟩)
    go_wp2
    go_ret
    exact ⟨rfl, b1⟩
  · have hs5 : s.size ≤ 5000 := by omega
    have c1 : ∀ wx, EscT wx → _ := fun wx => esc_Text s wx (by omega)
    have c2 : ∀ wx, EscT wx → _ := fun wx => esc_Attr s wx (by omega)
    have l1 := escP_len false s.data.toList
    have l2 := escP_len true s.data.toList
    rw [show s.data.toList.length = s.size by simp] at l1 l2
    obtain ⟨⟨f1, f2, f3⟩, g1, g2, g3, g4, g5⟩ := esc_free s.data.toList
    have z1 : (ofBytes (escP false s.data.toList)).size = (escP false s.data.toList).length := ofBytes_size _
    have z2 : (ofBytes (escP true s.data.toList)).size = (escP true s.data.toList).length := ofBytes_size _
    have c3 : ∀ wx, EscT wx → _ := fun wx => esc_Unescape (ofBytes (escP false s.data.toList)) wx (by omega)
    have c4 : ∀ wx, EscT wx → _ := fun wx => esc_Unescape (ofBytes (escP true s.data.toList)) wx (by omega)
    rw [ofBytes_list, un_esc, ← z1] at c3
    rw [ofBytes_list, un_esc, ← z2] at c4
    simp only [ofBytes_data] at c3 c4
    have i1 : ∀ wx, _ := fun wx => esc_IndexByte _ 60 wx (by omega) f1
    have i2 : ∀ wx, _ := fun wx => esc_IndexByte _ 62 wx (by omega) f2
    have i3 : ∀ wx, _ := fun wx => esc_IndexByte _ 13 wx (by omega) f3
    have j1 : ∀ wx, _ := fun wx => esc_IndexByte _ 60 wx (by omega) g1
    have j2 : ∀ wx, _ := fun wx => esc_IndexByte _ 62 wx (by omega) g2
    have j3 : ∀ wx, _ := fun wx => esc_IndexByte _ 13 wx (by omega) g3
    have j4 : ∀ wx, _ := fun wx => esc_IndexByte _ 34 wx (by omega) g4
    have j5 : ∀ wx, _ := fun wx => esc_IndexByte _ 10 wx (by omega) g5
    have y1 : (ofBytes (escP false s.data.toList)).size ≤ 30000 := by omega
    have y2 : (ofBytes (escP true s.data.toList)).size ≤ 30000 := by omega
    generalize ofBytes (escP false s.data.toList) = a at *
    generalize ofBytes (escP true s.data.toList) = b at *
    clear l1 l2 f1 f2 f3 g1 g2 g3 g4 g5 z1 z2
    go_enter Tryd.func6, Tryd.ntmps6
    (go_wp2_with fail); (refine (c1 _ hT).mono ?_); (rintro e w1 ⟨rfl, b1⟩)
    have t1 := EscT_below hT b1
    (go_wp2_with fail); (refine (c2 _ t1).mono ?_); (rintro e w2 ⟨rfl, b2⟩)
    have t2 := EscT_below t1 b2
    (go_wp2_with fail); (refine (c3 _ t2).mono ?_); (rintro e w3 ⟨rfl, b3⟩)
    have t3 := EscT_below t2 b3
    (go_wp2_with fail); (refine (c4 _ t3).mono ?_); (rintro e w4 ⟨rfl, b4⟩)
    have t4 := EscT_below t3 b4
    have r4 : Below w.heap.size w w4 := ((b1.trans (b2.mono b1.size)).trans (b3.mono (by have := b1.size; have := b2.size; omega))).trans (b4.mono (by have := b1.size; have := b2.size; have := b3.size; omega))
    clear b1 b2 b3 b4 c1 c2 c3 c4
    have hcc := Lib.run_convert_bytes_const (P := Tryd.prog) w4 36 5 #[.int .u8 60, .int .u8 62, .int .u8 13] 3 3 Tryd.underlying36 Tryd.underlying5
    simp only [show (#[Value.int .u8 60, .int .u8 62, .int .u8 13] : Array Value).size = 3 from rfl] at hcc
    go_wp2
    have b5 : Below w4.heap.size w4 (w4.alloc (.cells #[.int .u8 60, .int .u8 62, .int .u8 13] 5 (3, 3 + 1))) := (Below.refl _ _).alloc (Nat.le_refl _) _
    have d0 : (w4.alloc (.cells #[.int .u8 60, .int .u8 62, .int .u8 13] 5 (3, 3 + 1))).cell? ⟨w4.heap.size, 0, none⟩ = some (.int .u8 60) := by rw [World.cell?_alloc_mark]; rfl
    have d1 : (w4.alloc (.cells #[.int .u8 60, .int .u8 62, .int .u8 13] 5 (3, 3 + 1))).cell? ⟨w4.heap.size, 1, none⟩ = some (.int .u8 62) := by rw [World.cell?_alloc_mark]; rfl
    have d2 : (w4.alloc (.cells #[.int .u8 60, .int .u8 62, .int .u8 13] 5 (3, 3 + 1))).cell? ⟨w4.heap.size, 2, none⟩ = some (.int .u8 13) := by rw [World.cell?_alloc_mark]; rfl
    have t5 := EscT_below t4 b5
    have r5 : Below w.heap.size w (w4.alloc (.cells #[.int .u8 60, .int .u8 62, .int .u8 13] 5 (3, 3 + 1))) := r4.trans (b5.mono r4.size)
    generalize w4.alloc (.cells #[.int .u8 60, .int .u8 62, .int .u8 13] 5 (3, 3 + 1)) = w5 at *
    go_loop [36] (fun q => ∃ k : Nat, k ≤ 3 ∧ q = .int .i64 k) (fun q => 3 - (intOf q).toNat)
    case atStart => exact ⟨0, by omega, rfl⟩
    case round =>
      obtain ⟨k, hk, rfl⟩ := hrel
      rcases (by omega : k = 0 ∨ k = 1 ∨ k = 2 ∨ k = 3) with rfl | rfl | rfl | rfl
      · (go_wp2_with fail); (refine (i1 _).mono ?_); (rintro e w' ⟨rfl, rfl⟩)
        (go_wp2_with fail); (refine (j1 _).mono ?_); (rintro e w' ⟨rfl, rfl⟩)
        go_wp2
        go_round
        case rel => exact ⟨1, by omega, rfl⟩
        case measure => simp [intOf]
      · (go_wp2_with fail); (refine (i2 _).mono ?_); (rintro e w' ⟨rfl, rfl⟩)
        (go_wp2_with fail); (refine (j2 _).mono ?_); (rintro e w' ⟨rfl, rfl⟩)
        go_wp2
        go_round
        case rel => exact ⟨2, by omega, rfl⟩
        case measure => simp [intOf]
      · (go_wp2_with fail); (refine (i3 _).mono ?_); (rintro e w' ⟨rfl, rfl⟩)
        (go_wp2_with fail); (refine (j3 _).mono ?_); (rintro e w' ⟨rfl, rfl⟩)
        go_wp2
        go_round
        case rel => exact ⟨3, by omega, rfl⟩
        case measure => simp [intOf]
      · (go_wp2_with fail); (refine (esc_alive _ t5).mono ?_); (rintro e w6 ⟨rfl, b6⟩)
        (go_wp2_with fail); (refine (j4 _).mono ?_); (rintro e w' ⟨rfl, rfl⟩)
        (go_wp2_with fail); (refine (j5 _).mono ?_); (rintro e w' ⟨rfl, rfl⟩)
        go_wp2
        go_ret
        exact ⟨by simp, r5.trans (b6.mono r5.size)⟩
end Go.Proofs.YtofoloidllkfaaaDoor
