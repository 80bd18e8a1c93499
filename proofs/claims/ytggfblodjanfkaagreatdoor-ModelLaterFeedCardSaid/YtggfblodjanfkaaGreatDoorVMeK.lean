/- Packed from the texts MeK. -/
import Derived.Test.YtggfblodjanfkaaGreatDoorVMeE
import Derived.Test.YtggfblodjanfkaaGreatDoorVMeI
import Derived.Test.YtggfblodjanfkaaGreatDoorVl2
import Derived.Test.YtggfblodjanfkaaGreatDoorVl4
section
namespace Go.Proofs.YtggfblodjanfkaaGreatDoor
open Go.RowKit
def xmE (i : ByteArray) (u : Int) : EntD := ⟨i, ⟨#[]⟩, ⟨#[]⟩, ⟨#[]⟩, u⟩
def xmF : FeedD := ⟨[], ⟨#[102]⟩, ⟨#[]⟩, ⟨#[]⟩, 0, []⟩
theorem xm_one : cmpP [⟨#[97]⟩, ⟨#[98]⟩] [⟨#[97]⟩, ⟨#[98]⟩, ⟨#[99]⟩] = -1 := by decide +kernel
theorem xm_two : cmpP [⟨#[97]⟩, ⟨#[98]⟩, ⟨#[99]⟩] [⟨#[98]⟩] = -1 := by decide +kernel
theorem xm_three : cmpE (xmE ⟨#[]⟩ 5) (xmE ⟨#[]⟩ 4) = -1 := by decide +kernel
theorem xm_four : ofBytes (ekL (xmE ⟨#[120]⟩ 7)) = ⟨#[91, 34, 120, 34, 44, 34, 34, 44, 34, 34, 44, 34, 34, 44, 55, 93]⟩ := by kernel_rfl
theorem xm_five : errZ (okFs [] [xmF]) = 0 := by kernel_rfl
theorem xm_six : errZ (okE (xmE ⟨#[]⟩ 0)) = 22 := by kernel_rfl
theorem xm_seven : ltB (xmE ⟨#[97]⟩ 0) (xmE ⟨#[98]⟩ 0) = true := by kernel_rfl
theorem xm_later : ltE (xmE ⟨#[97]⟩ 0) (xmE ⟨#[98]⟩ 0) = xmE ⟨#[98]⟩ 0 := by unfold ltE; rw [if_pos xm_seven]
set_option maxRecDepth 100000 in
set_option maxHeartbeats 16000000 in
theorem mc_alive (w : World) (hT : TabW w) : Calls Tryz.prog 6 #[] w fun e w' => e = .returned (.bool true) ∧ Below w.heap.size w w' := by
  have hzE : ∀ (i : ByteArray) (u : Int), i.size ≤ 1 → ESz (xmE i u) := fun i u h => ⟨by show i.size ≤ _; omega, by show (⟨#[]⟩ : ByteArray).size ≤ _; decide, by show (⟨#[]⟩ : ByteArray).size ≤ _; decide, by show (⟨#[]⟩ : ByteArray).size ≤ _; decide⟩
  have hkE : ∀ (i : ByteArray) (u : Int), i.size ≤ 1 → (xmE i u).id.size + (xmE i u).title.size + (xmE i u).link.size + (xmE i u).content.size ≤ 100000 := fun i u h => by
    show i.size + 0 + 0 + 0 ≤ _
    omega
  have hzF : FSz xmF := ⟨by decide, by decide, by decide, fun s hs => (by cases hs), by decide, fun e he => (by cases he), by decide⟩
  have p1 := fun (wx : World) => (show NamAt ((wx.alloc (.cells #[.string ⟨#[97]⟩, .string ⟨#[98]⟩] 9)).alloc (.cells #[.string ⟨#[97]⟩, .string ⟨#[98]⟩, .string ⟨#[99]⟩] 9)) (some ⟨wx.heap.size, 0, none⟩) [⟨#[97]⟩, ⟨#[98]⟩] from (nam_two wx ⟨#[97]⟩ ⟨#[98]⟩).below ((Below.refl _ _).alloc (Nat.le_refl _) _))
  have p2 := fun (wx : World) => (show NamAt ((wx.alloc (.cells #[.string ⟨#[97]⟩, .string ⟨#[98]⟩] 9)).alloc (.cells #[.string ⟨#[97]⟩, .string ⟨#[98]⟩, .string ⟨#[99]⟩] 9)) (some ⟨wx.heap.size + 1, 0, none⟩) [⟨#[97]⟩, ⟨#[98]⟩, ⟨#[99]⟩] by
    have h := nam_three (wx.alloc (.cells #[.string ⟨#[97]⟩, .string ⟨#[98]⟩] 9)) ⟨#[97]⟩ ⟨#[98]⟩ ⟨#[99]⟩
    rw [World.size_alloc] at h
    exact h)
  have p3 := fun (wx : World) => (show NamAt ((wx.alloc (.cells #[.string ⟨#[97]⟩, .string ⟨#[98]⟩, .string ⟨#[99]⟩] 9)).alloc (.cells #[.string ⟨#[98]⟩] 9)) (some ⟨wx.heap.size, 0, none⟩) [⟨#[97]⟩, ⟨#[98]⟩, ⟨#[99]⟩] from (nam_three wx ⟨#[97]⟩ ⟨#[98]⟩ ⟨#[99]⟩).below ((Below.refl _ _).alloc (Nat.le_refl _) _))
  have p4 := fun (wx : World) => (show NamAt ((wx.alloc (.cells #[.string ⟨#[97]⟩, .string ⟨#[98]⟩, .string ⟨#[99]⟩] 9)).alloc (.cells #[.string ⟨#[98]⟩] 9)) (some ⟨wx.heap.size + 1, 0, none⟩) [⟨#[98]⟩] by
    have h := nam_one (wx.alloc (.cells #[.string ⟨#[97]⟩, .string ⟨#[98]⟩, .string ⟨#[99]⟩] 9)) ⟨#[98]⟩
    rw [World.size_alloc] at h
    exact h)
  have ba := fun (wx : World) (o o' : Obj) => (show Below wx.heap.size wx ((wx.alloc o).alloc o') from ((Below.refl _ _).alloc (Nat.le_refl _) o).alloc (by simp) o')
  have c1 := mc_paths [⟨#[97]⟩, ⟨#[98]⟩] [⟨#[97]⟩, ⟨#[98]⟩, ⟨#[99]⟩] _ 2 _ 3 _ (p1 w) (p2 w) (by decide) (by decide)
  have c2 := fun wx => mc_paths [⟨#[97]⟩, ⟨#[98]⟩, ⟨#[99]⟩] [⟨#[98]⟩] _ 3 _ 1 _ (p3 wx) (p4 wx) (by decide) (by decide)
  have c3 := fun wx => mc_cmpE (xmE ⟨#[]⟩ 5) (xmE ⟨#[]⟩ 4) wx
  have c4 := fun wx (h : TabW wx) => mc_EntryKey (xmE ⟨#[120]⟩ 7) wx (hkE _ _ (by decide)) (by decide) (by decide) h
  have f5 := fun (wx : World) => (show FeedsAt (wx.alloc (.cells #[.slice none 0 0, .string ⟨#[102]⟩, .string ⟨#[]⟩, .string ⟨#[]⟩, .int .i64 0, .slice none 0 0] 30)) (some ⟨wx.heap.size, 0, none⟩) [xmF] from feed_one (f := xmF) (p := none) (c := 0) (q := none) (d := 0) (fun i hi => absurd hi (Nat.not_lt_zero _)) (fun i hi => absurd hi (Nat.not_lt_zero _)))
  have c5 := fun wx (h : HasUtf8 (wx.alloc (.cells #[.slice none 0 0, .string ⟨#[102]⟩, .string ⟨#[]⟩, .string ⟨#[]⟩, .int .i64 0, .slice none 0 0] 30))) => mc_Check [xmF] _ 1 _ (f5 wx) (fun x hx => by rw [List.mem_singleton.1 hx]; exact hzF) (by decide) h
  have c6 := fun wx (h : HasUtf8 wx) => mc_CheckEntry (xmE ⟨#[]⟩ 0) wx (hzE _ _ (by decide)) h
  have k7 := fun (i : ByteArray) (hi : i.size ≤ 1) (w0 : World) (h : TabW w0) (wx : World) (hb : Below w0.heap.size w0 wx) => mc_EntryKey (xmE i 0) wx (hkE _ _ hi) (by show -9223372036854775808 ≤ (0 : Int); decide) (by show (0 : Int) ≤ 9223372036854775807; decide) (TabW_below h hb)
  have c7 := fun wx (h : TabW wx) => mc_LaterEntry (xmE ⟨#[97]⟩ 0) (xmE ⟨#[98]⟩ 0) wx (k7 ⟨#[97]⟩ (by decide) wx h) (k7 ⟨#[98]⟩ (by decide) wx h)
  rw [xm_one] at c1
  rw [xm_two] at c2
  rw [xm_three] at c3
  rw [xm_four] at c4
  rw [xm_five] at c5
  rw [xm_six] at c6
  rw [xm_later] at c7
  unfold EntV xmE at c3 c4 c6 c7
  dsimp only [List.length_cons, List.length_nil] at c1 c2 c3 c4 c5 c6 c7
  have C2 := Lib.hid c2
  have C3 := Lib.hid c3
  have C4 := Lib.hid c4
  have C5 := Lib.hid c5
  have C6 := Lib.hid c6
  have C7 := Lib.hid c7
  have BA := Lib.hid ba
  have HT := Lib.hid hT
  clear c2 c3 c4 c5 c6 c7 k7 f5 p1 p2 p3 p4 hzE hkE hzF hT ba
  go_enter Tryz.func6, Tryz.ntmps6
  go_wp2_with fail
  refine c1.mono ?_
  rintro e w1 ⟨rfl, b1⟩
  have B1 := Lib.hid ((BA.out w (.cells #[.string ⟨#[97]⟩, .string ⟨#[98]⟩] 9) (.cells #[.string ⟨#[97]⟩, .string ⟨#[98]⟩, .string ⟨#[99]⟩] 9)).trans (b1.mono (BA.out w (.cells #[.string ⟨#[97]⟩, .string ⟨#[98]⟩] 9) (.cells #[.string ⟨#[97]⟩, .string ⟨#[98]⟩, .string ⟨#[99]⟩] 9)).size))
  have c2 := C2.out w1
  clear c1 b1 C2
  go_wp2_with fail
  refine c2.mono ?_
  rintro e w2 ⟨rfl, b2⟩
  have B2 := Lib.hid (B1.out.trans (((BA.out w1 (.cells #[.string ⟨#[97]⟩, .string ⟨#[98]⟩, .string ⟨#[99]⟩] 9) (.cells #[.string ⟨#[98]⟩] 9)).trans (b2.mono (BA.out w1 (.cells #[.string ⟨#[97]⟩, .string ⟨#[98]⟩, .string ⟨#[99]⟩] 9) (.cells #[.string ⟨#[98]⟩] 9)).size)).mono B1.out.size))
  have c3 := C3.out w2
  clear c2 b2 C3 BA
  go_wp2_with fail
  refine c3.mono ?_
  rintro e w3 ⟨rfl, b3⟩
  have B3 := Lib.hid (B2.out.trans (b3.mono B2.out.size))
  have c4 := C4.out w3 (TabW_below HT.out B3.out)
  clear c3 b3 C4
  go_wp2_with fail
  refine c4.mono ?_
  rintro e w4 ⟨rfl, b4⟩
  have B4 := Lib.hid (B3.out.trans (b4.mono B3.out.size))
  have hb5 : Below w4.heap.size w4 (w4.alloc (.cells #[.slice none 0 0, .string ⟨#[102]⟩, .string ⟨#[]⟩, .string ⟨#[]⟩, .int .i64 0, .slice none 0 0] 30)) := (Below.refl _ _).alloc (Nat.le_refl _) _
  have B45 := Lib.hid (B4.out.trans (hb5.mono B4.out.size))
  have c5 := C5.out w4 (TabW_below HT.out B45.out).1
  clear c4 b4 hb5 C5
  go_wp2_with fail
  refine c5.mono ?_
  rintro e w5 ⟨rfl, b5⟩
  have B5 := Lib.hid (B45.out.trans (b5.mono B45.out.size))
  have c6 := C6.out w5 (TabW_below HT.out B5.out).1
  clear c5 b5 C6
  go_wp2_with fail
  refine c6.mono ?_
  rintro e w6 ⟨rfl, b6⟩
  have B6 := Lib.hid (B5.out.trans (b6.mono B5.out.size))
  have c7 := C7.out w6 (TabW_below HT.out B6.out)
  clear c6 b6 C7
  go_wp2_with fail
  refine c7.mono ?_
  rintro e w7 ⟨rfl, b7⟩
  have B7 := Lib.hid (B6.out.trans (b7.mono B6.out.size))
  have hfd : ∀ wx, (Instr.field 35 (.agg #[.string ⟨#[98]⟩, .string ⟨#[]⟩, .string ⟨#[]⟩, .string ⟨#[]⟩, .int .i64 0]) 0).run Tryz.prog wx = .ok (.string ⟨#[98]⟩) wx := fun wx => by kernel_rfl
  clear c7 b7
  go_wp2
  go_ret
  exact ⟨by first | rfl | simp, B7.out⟩
end Go.Proofs.YtggfblodjanfkaaGreatDoor
end
