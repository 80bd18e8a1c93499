/- The walk of the law of layer 4 on years of two digits. -/
import Derived.Test.YtdbpkggjnmapiaaDoorRfcL
import Derived.Test.YtdbpkggjnmapiaaDoorRfcQ
import Derived.BigRegion
namespace Go.Proofs.YtdbpkggjnmapiaaDoor
open Go.RowKit

theorem rconv2 (w : World) (a b : Int) : (convert 42 9 (.slice (some ⟨w.heap.size, 0, none⟩) 2 2)).run Tryd.prog (w.alloc (.cells #[.int .u8 a, .int .u8 b] 5)) = .ok (.string (strOfNums [a, b])) (w.alloc (.cells #[.int .u8 a, .int .u8 b] 5)) :=
  run_convert_bytes_arg _ 42 5 Tryd.underlying42 Tryd.underlying5 _ 0 2 2 [a, b] rfl (fun i hi => by
    match i, hi with
    | 0, _ => simp
    | 1, _ => simp) 9 Tryd.underlying9
theorem rconv2d (w : World) (a b : Int) : (convert 42 9 (.slice (some ⟨w.heap.size, 0, none⟩) 2 2)).run Tryd.prog (w.alloc (.cells #[.int .u8 a, .int .u8 b] 5)).drew = .ok (.string (strOfNums [a, b])) (w.alloc (.cells #[.int .u8 a, .int .u8 b] 5)).drew :=
  run_convert_bytes_arg _ 42 5 Tryd.underlying42 Tryd.underlying5 _ 0 2 2 [a, b] rfl (fun i hi => by
    match i, hi with
    | 0, _ => simp
    | 1, _ => simp) 9 Tryd.underlying9
theorem civ_block_lt1 {w : World} {a : Addr} {v : Value} (hc : w.cell? a = some v) : a.block < w.heap.size := rblock_lt hc
def yearW (w : World) : World := (w.alloc (.cells #[.string ⟨#[85, 84]⟩, .string ⟨#[122]⟩, .string ⟨#[69, 115, 116]⟩, .string ⟨#[80, 68, 84]⟩, .string ⟨#[43, 48, 48, 48, 48]⟩, .string ⟨#[45, 48, 53, 48, 48]⟩] 40)).alloc (.cells #[.int .i64 0, .int .i64 0, .int .i64 (-5), .int .i64 (-7), .int .i64 0, .int .i64 (-5)] 41)
theorem yearW_eq (w : World) : (w.alloc (.cells #[.string ⟨#[85, 84]⟩, .string ⟨#[122]⟩, .string ⟨#[69, 115, 116]⟩, .string ⟨#[80, 68, 84]⟩, .string ⟨#[43, 48, 48, 48, 48]⟩, .string ⟨#[45, 48, 53, 48, 48]⟩] 40)).alloc (.cells #[.int .i64 0, .int .i64 0, .int .i64 (-5), .int .i64 (-7), .int .i64 0, .int .i64 (-5)] 41) = yearW w := rfl
theorem yearW_size (w : World) : (yearW w).heap.size = w.heap.size + 2 := by simp [yearW]
theorem yearW_below (w : World) : Below w.heap.size w (yearW w) := ((Below.refl _ _).alloc (Nat.le_refl _) _).alloc (by simp) _
theorem yearW_name (w : World) (k : Nat) (h : k < 6) : (yearW w).cell? ⟨w.heap.size, k, none⟩ = some (.string (ofBytes (yZone k))) := by
  rcases (by omega : k = 0 ∨ k = 1 ∨ k = 2 ∨ k = 3 ∨ k = 4 ∨ k = 5) with rfl | rfl | rfl | rfl | rfl | rfl
  all_goals (simp [yearW, yZone, ofBytes])
theorem yearW_hour (w : World) (k : Nat) (h : k < 6) : (yearW w).cell? ⟨w.heap.size + 1, k, none⟩ = some (.int .i64 (yHour k)) := by
  rcases (by omega : k = 0 ∨ k = 1 ∨ k = 2 ∨ k = 3 ∨ k = 4 ∨ k = 5) with rfl | rfl | rfl | rfl | rfl | rfl
  all_goals (simp [yearW, yHour])

set_option maxRecDepth 100000 in
set_option maxHeartbeats 8000000 in
theorem walk_RfcYears (y d z : Int) (w : World) (hy0 : 0 ≤ y) (hy1 : y ≤ 255) (hd0 : 0 ≤ d) (hd1 : d ≤ 255) (hz0 : 0 ≤ z) (hz1 : z ≤ 255) (hT : RfcT w) :
    Calls Tryd.prog 8 #[.int .u8 y, .int .u8 d, .int .u8 z] w fun e w' => e = .returned (.bool true) ∧ Below w.heap.size w w' := by
  obtain ⟨yr, hyr⟩ : ∃ yr, y % 100 = yr := ⟨_, rfl⟩
  obtain ⟨dd, hdd⟩ : ∃ dd, d % 28 = dd := ⟨_, rfl⟩
  obtain ⟨k, hk⟩ : ∃ k : Nat, z % 6 = (k : Int) := ⟨(z % 6).toNat, by omega⟩
  have hk6 : k < 6 := by omega
  have hyr9 : 0 ≤ yr ∧ yr ≤ 99 := by omega
  have hdd9 : 0 ≤ dd ∧ dd ≤ 27 := by omega
  have t0 := RfcT_below hT (yearW_below w)
  have q1 := rconv2 (yearW w) (48 + yr / 10) (48 + yr % 10)
  rw [show (yearW w).heap.size = w.heap.size + 1 + 1 by simp [yearW]] at q1
  unfold yearW at q1
  rcases (by omega : 50 ≤ yr ∨ yr < 50) with hyb | hyb
  · have hfy : fullY yr = 1900 + yr := by unfold fullY; rw [if_pos hyb]
    go_enter Tryd.func8, Tryd.ntmps8
    go_wp2_with fail
    rw [yearW_eq]
    clear q1
    obtain ⟨D, hD⟩ : ∃ D, D = dd + 1 := ⟨_, rfl⟩
    rw [← hD]
    have hD9 : 1 ≤ D ∧ D ≤ 28 := by omega
    rw [hk]
    obtain ⟨W3, hW3⟩ : ∃ W3, W3 = (yearW w).alloc (.cells #[.int .u8 (48 + yr / 10), .int .u8 (48 + yr % 10)] 5) := ⟨_, rfl⟩
    rw [← hW3]
    have f1 : W3.cell? ⟨w.heap.size, k, none⟩ = some (.string (ofBytes (yZone k))) := by
      rw [hW3, World.cell?_alloc_past _ _ _ (by simp [yearW]; omega)]; exact yearW_name w k hk6
    have f2 : W3.cell? ⟨w.heap.size + 1, k, none⟩ = some (.int .i64 (yHour k)) := by
      rw [hW3, World.cell?_alloc_past _ _ _ (by simp [yearW])]; exact yearW_hour w k hk6
    have b0 : Below w.heap.size w W3 := by rw [hW3]; exact (yearW_below w).alloc (yearW_below w).size _
    have tw := RfcT_below hT b0
    have hws := b0.size
    have g2 := rconv2 W3 (48 + D / 10) (48 + D % 10)
    have g2d := rconv2d W3 (48 + D / 10) (48 + D % 10)
    have hs1 : (strOfNums [48 + D / 10, 48 + D % 10]).size = 2 := rfl
    have hs2 : (strOfNums [48 + yr / 10, 48 + yr % 10]).size = 2 := rfl
    have hzl := (zone_facts ⟨k, hk6⟩).2.2.2
    have hs3 : (ofBytes (yZone k)).size ≤ 5 := by rw [ofBytes_size]; exact hzl
    have hHb := (zone_facts ⟨k, hk6⟩).2.2.1
    have hTb := full_time yr D hyr9 hD9
    have hsc := secV_time (full_date yr D hyr9 hD9) noon
    rw [hfy] at hsc
    have c2 : ∀ wx, _ := fun wx => cref_Seconds (1900 + yr) 2 D 12 34 0 wx
    rw [hsc] at c2
    have hst := years_string yr D (yZone k)
    have hpp := parse_years yr D (yHour k * 60) (yZone k) hyr9 hD9 (zone_facts ⟨k, hk6⟩).1 (zone_facts ⟨k, hk6⟩).2.1 (zone_facts ⟨k, hk6⟩).2.2.1
    rw [← hst] at hpp
    rw [show timeI (fullY yr) 2 D 12 34 0 - yHour k * 60 * 60 = timeI (fullY yr) 2 D 12 34 0 - 3600 * yHour k by omega] at hpp
    change parse822 (strOfNums [48 + D / 10, 48 + D % 10] ++ _ ++ strOfNums [48 + yr / 10, 48 + yr % 10] ++ _ ++ _) = _ at hpp
    clear hzl hst hW3 t0
    generalize strOfNums [48 + D / 10, 48 + D % 10] = S1 at *
    generalize strOfNums [48 + yr / 10, 48 + yr % 10] = S2 at *
    generalize ofBytes (yZone k) = S3 at *
    rw [hfy] at hpp hTb
    generalize timeI (1900 + yr) 2 D 12 34 0 = T at *
    simp only at hHb
    generalize yHour k = H at *
    have e1 : (S1 ++ ⟨#[32, 70, 101, 98, 32]⟩).size = 7 := by rw [ByteArray.size_append, hs1]; rfl
    have e2 : (S1 ++ ⟨#[32, 70, 101, 98, 32]⟩ ++ S2).size = 9 := by rw [ByteArray.size_append, e1, hs2]
    have e3 : (S1 ++ ⟨#[32, 70, 101, 98, 32]⟩ ++ S2 ++ ⟨#[32, 49, 50, 58, 51, 52, 32]⟩).size = 16 := by rw [ByteArray.size_append, e2]; rfl
    have hki : (k : Int) < 6 := by omega
    have f1a : ∀ o : Obj, (W3.alloc o).cell? ⟨w.heap.size, k, none⟩ = some (.string S3) := fun o => (World.cell?_alloc_past _ _ _ (civ_block_lt1 f1)).trans f1
    clear hsc hfy
    clear hy0 hy1 hd0 hd1 hz0 hz1 hyr hdd hk hdd9 hD
    go_region
    obtain ⟨Q, hQ⟩ : ∃ Q, Q = S1 ++ ⟨#[32, 70, 101, 98, 32]⟩ ++ S2 ++ ⟨#[32, 49, 50, 58, 51, 52, 32]⟩ ++ S3 := ⟨_, rfl⟩
    have hQs : Q.size ≤ 30 := by rw [hQ, ByteArray.size_append, e3]; omega
    rw [← hQ] at hpp ⊢
    have c3 : ∀ wx, RfcT wx → _ := fun wx => rfc_Parse Q wx (by omega)
    rw [hpp] at c3
    clear hpp hQ g2 g2d hs1 hs2 hs3 e1 e2 e3 f1 f1a
    have b3 : Below W3.heap.size W3 (W3.alloc (.cells #[.int .u8 (48 + D / 10), .int .u8 (48 + D % 10)] 5)).drew := ((Below.refl _ _).alloc (Nat.le_refl _) _).drew
    generalize (W3.alloc (.cells #[.int .u8 (48 + D / 10), .int .u8 (48 + D % 10)] 5)).drew = W4 at *
    have f4 : W4.cell? ⟨w.heap.size + 1, k, none⟩ = some (.int .i64 H) := (b3.cell (p := ⟨w.heap.size + 1, k, none⟩) (rblock_lt f2)).trans f2
    have tw4 := RfcT_below tw b3
    clear f2
    (go_wp2_with fail); (refine (c2 _).mono ?_); (rintro e w' ⟨rfl, rfl⟩)
    (go_wp2_with fail); (refine (c3 _ tw4).mono ?_); (rintro e w5 ⟨rfl, b5⟩)
    have t5 := RfcT_below tw4 b5
    have f5 : w5.cell? ⟨w.heap.size + 1, k, none⟩ = some (.int .i64 H) := (b5.cell (p := ⟨w.heap.size + 1, k, none⟩) (rblock_lt f4)).trans f4
    clear f4
    (go_wp2_with fail); (refine (rfc_alive _ t5).mono ?_); (rintro e w6 ⟨rfl, b6⟩)
    have f6 : w6.cell? ⟨w.heap.size + 1, k, none⟩ = some (.int .i64 H) := (b6.cell (p := ⟨w.heap.size + 1, k, none⟩) (rblock_lt f5)).trans f5
    clear f5
    go_wp2
    go_ret
    have s3 := b3.size; have s5 := b5.size
    exact ⟨by simp, ((b0.trans (b3.mono (by omega))).trans (b5.mono (by omega))).trans (b6.mono (by omega))⟩
  · have hfy : fullY yr = 2000 + yr := by unfold fullY; rw [if_neg (by omega)]
    go_enter Tryd.func8, Tryd.ntmps8
    go_wp2_with fail
    rw [yearW_eq]
    clear q1
    obtain ⟨D, hD⟩ : ∃ D, D = dd + 1 := ⟨_, rfl⟩
    rw [← hD]
    have hD9 : 1 ≤ D ∧ D ≤ 28 := by omega
    rw [hk]
    obtain ⟨W3, hW3⟩ : ∃ W3, W3 = (yearW w).alloc (.cells #[.int .u8 (48 + yr / 10), .int .u8 (48 + yr % 10)] 5) := ⟨_, rfl⟩
    rw [← hW3]
    have f1 : W3.cell? ⟨w.heap.size, k, none⟩ = some (.string (ofBytes (yZone k))) := by
      rw [hW3, World.cell?_alloc_past _ _ _ (by simp [yearW]; omega)]; exact yearW_name w k hk6
    have f2 : W3.cell? ⟨w.heap.size + 1, k, none⟩ = some (.int .i64 (yHour k)) := by
      rw [hW3, World.cell?_alloc_past _ _ _ (by simp [yearW])]; exact yearW_hour w k hk6
    have b0 : Below w.heap.size w W3 := by rw [hW3]; exact (yearW_below w).alloc (yearW_below w).size _
    have tw := RfcT_below hT b0
    have hws := b0.size
    have g2 := rconv2 W3 (48 + D / 10) (48 + D % 10)
    have g2d := rconv2d W3 (48 + D / 10) (48 + D % 10)
    have hs1 : (strOfNums [48 + D / 10, 48 + D % 10]).size = 2 := rfl
    have hs2 : (strOfNums [48 + yr / 10, 48 + yr % 10]).size = 2 := rfl
    have hzl := (zone_facts ⟨k, hk6⟩).2.2.2
    have hs3 : (ofBytes (yZone k)).size ≤ 5 := by rw [ofBytes_size]; exact hzl
    have hHb := (zone_facts ⟨k, hk6⟩).2.2.1
    have hTb := full_time yr D hyr9 hD9
    have hsc := secV_time (full_date yr D hyr9 hD9) noon
    rw [hfy] at hsc
    have c2 : ∀ wx, _ := fun wx => cref_Seconds (2000 + yr) 2 D 12 34 0 wx
    rw [hsc] at c2
    have hst := years_string yr D (yZone k)
    have hpp := parse_years yr D (yHour k * 60) (yZone k) hyr9 hD9 (zone_facts ⟨k, hk6⟩).1 (zone_facts ⟨k, hk6⟩).2.1 (zone_facts ⟨k, hk6⟩).2.2.1
    rw [← hst] at hpp
    rw [show timeI (fullY yr) 2 D 12 34 0 - yHour k * 60 * 60 = timeI (fullY yr) 2 D 12 34 0 - 3600 * yHour k by omega] at hpp
    change parse822 (strOfNums [48 + D / 10, 48 + D % 10] ++ _ ++ strOfNums [48 + yr / 10, 48 + yr % 10] ++ _ ++ _) = _ at hpp
    clear hzl hst hW3 t0
    generalize strOfNums [48 + D / 10, 48 + D % 10] = S1 at *
    generalize strOfNums [48 + yr / 10, 48 + yr % 10] = S2 at *
    generalize ofBytes (yZone k) = S3 at *
    rw [hfy] at hpp hTb
    generalize timeI (2000 + yr) 2 D 12 34 0 = T at *
    simp only at hHb
    generalize yHour k = H at *
    have e1 : (S1 ++ ⟨#[32, 70, 101, 98, 32]⟩).size = 7 := by rw [ByteArray.size_append, hs1]; rfl
    have e2 : (S1 ++ ⟨#[32, 70, 101, 98, 32]⟩ ++ S2).size = 9 := by rw [ByteArray.size_append, e1, hs2]
    have e3 : (S1 ++ ⟨#[32, 70, 101, 98, 32]⟩ ++ S2 ++ ⟨#[32, 49, 50, 58, 51, 52, 32]⟩).size = 16 := by rw [ByteArray.size_append, e2]; rfl
    have hki : (k : Int) < 6 := by omega
    have f1a : ∀ o : Obj, (W3.alloc o).cell? ⟨w.heap.size, k, none⟩ = some (.string S3) := fun o => (World.cell?_alloc_past _ _ _ (civ_block_lt1 f1)).trans f1
    clear hsc hfy
    clear hy0 hy1 hd0 hd1 hz0 hz1 hyr hdd hk hdd9 hD
    go_region
    obtain ⟨Q, hQ⟩ : ∃ Q, Q = S1 ++ ⟨#[32, 70, 101, 98, 32]⟩ ++ S2 ++ ⟨#[32, 49, 50, 58, 51, 52, 32]⟩ ++ S3 := ⟨_, rfl⟩
    have hQs : Q.size ≤ 30 := by rw [hQ, ByteArray.size_append, e3]; omega
    rw [← hQ] at hpp ⊢
    have c3 : ∀ wx, RfcT wx → _ := fun wx => rfc_Parse Q wx (by omega)
    rw [hpp] at c3
    clear hpp hQ g2 g2d hs1 hs2 hs3 e1 e2 e3 f1 f1a
    have b3 : Below W3.heap.size W3 (W3.alloc (.cells #[.int .u8 (48 + D / 10), .int .u8 (48 + D % 10)] 5)).drew := ((Below.refl _ _).alloc (Nat.le_refl _) _).drew
    generalize (W3.alloc (.cells #[.int .u8 (48 + D / 10), .int .u8 (48 + D % 10)] 5)).drew = W4 at *
    have f4 : W4.cell? ⟨w.heap.size + 1, k, none⟩ = some (.int .i64 H) := (b3.cell (p := ⟨w.heap.size + 1, k, none⟩) (rblock_lt f2)).trans f2
    have tw4 := RfcT_below tw b3
    clear f2
    (go_wp2_with fail); (refine (c2 _).mono ?_); (rintro e w' ⟨rfl, rfl⟩)
    (go_wp2_with fail); (refine (c3 _ tw4).mono ?_); (rintro e w5 ⟨rfl, b5⟩)
    have t5 := RfcT_below tw4 b5
    have f5 : w5.cell? ⟨w.heap.size + 1, k, none⟩ = some (.int .i64 H) := (b5.cell (p := ⟨w.heap.size + 1, k, none⟩) (rblock_lt f4)).trans f4
    clear f4
    (go_wp2_with fail); (refine (rfc_alive _ t5).mono ?_); (rintro e w6 ⟨rfl, b6⟩)
    have f6 : w6.cell? ⟨w.heap.size + 1, k, none⟩ = some (.int .i64 H) := (b6.cell (p := ⟨w.heap.size + 1, k, none⟩) (rblock_lt f5)).trans f5
    clear f5
    go_wp2
    go_ret
    have s3 := b3.size; have s5 := b5.size
    exact ⟨by simp, ((b0.trans (b3.mono (by omega))).trans (b5.mono (by omega))).trans (b6.mono (by omega))⟩
end Go.Proofs.YtdbpkggjnmapiaaDoor
