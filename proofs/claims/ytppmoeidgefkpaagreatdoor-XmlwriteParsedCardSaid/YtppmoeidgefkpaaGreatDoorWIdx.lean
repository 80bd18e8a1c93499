/- Packed from the texts Idx. -/
import Derived.Test.YtppmoeidgefkpaaGreatDoorWKit
import Derived.Test.YtppmoeidgefkpaaGreatDoorWShelf
import Derived.Test.YtppmoeidgefkpaaGreatDoorWStrK
import Derived.Test.YtppmoeidgefkpaaGreatDoorChecked
import Derived.BigQuiet
import Derived.WalkKit
import Derived.WalkSmall
import Derived.Lib.Small
import Derived.WalkMore
import Derived.Lib.IndexAny
import Derived.Lib.DecodeN
import Derived.Laws.RangeAny
import Derived.Laws.Runes
import Derived.Lib.OthersKept
import Derived.Deep.RegionWith
import Derived.Deep.RegionHeld3
set_option maxRecDepth 100000
namespace Go.Proofs.YtppmoeidgefkpaaGreatDoor
section
open Go.RowKit
theorem enc_last (r : Int) (h : 128 ≤ r) : ∃ (B : ByteArray) (m : Nat) (x : UInt8) (hm : m < B.size), Utf8.encode r = B ∧ B.size = m + 1 ∧ m ≤ 3 ∧ B[m]'hm = x ∧ 128 ≤ x.toNat := by
 have key : ∀ n : Nat, 128 ≤ (UInt8.ofNat (128 + n % 64)).toNat := by
  intro n
  rw [UInt8.toNat_ofNat']
  omega
 obtain ⟨c, hcd, hc⟩ : ∃ c : Nat, (if Utf8.valid r then r.toNat else Utf8.runeError) = c ∧ 128 ≤ c := by
  refine ⟨_, rfl, ?_⟩
  split
  ·omega
  ·decide
 have he : Utf8.encode r = if c < 128 then ⟨#[UInt8.ofNat c]⟩ else if c < 2048 then ⟨#[UInt8.ofNat (192 + c / 64), UInt8.ofNat (128 + c % 64)]⟩ else if c < 65536 then ⟨#[UInt8.ofNat (224 + c / 4096), UInt8.ofNat (128 + c / 64 % 64), UInt8.ofNat (128 + c % 64)]⟩ else ⟨#[UInt8.ofNat (240 + c / 262144), UInt8.ofNat (128 + c / 4096 % 64), UInt8.ofNat (128 + c / 64 % 64), UInt8.ofNat (128 + c % 64)]⟩ := by
  unfold Utf8.encode
  simp only [hcd]
 rw [if_neg (by omega)] at he
 split at he
 ·exact ⟨_, 1, _, by simp [ByteArray.size], he, rfl, by omega, rfl, key c⟩
 ·split at he
  ·exact ⟨_, 2, _, by simp [ByteArray.size], he, rfl, by omega, rfl, key c⟩
  ·exact ⟨_, 3, _, by simp [ByteArray.size], he, rfl, by omega, rfl, key c⟩
theorem byte_none (l : List UInt8) (x : UInt8) (h : l.contains x = false) : Lib.indexByte l x = -1 := by
 have h1 := Lib.contains_iff_indexByte l x
 rw [h] at h1
 have h2 := of_decide_eq_false h1.symm
 have h3 := Lib.indexByte_ge l x
 omega
theorem idx_IndexByte (s : ByteArray) (x : UInt8) (w : World) (h : s.data.toList.contains x = false) : Calls Tryz.prog 127 #[.string s, .int .u8 (x.toNat : Int)] w fun e w' => e = .returned (.int .i64 (-1)) ∧ w = w' := by
 have := Tryz.strings_IndexByte s (x.toNat : Int) w
 rw [show (((x.toNat : Int)).toNat.toUInt8) = x by simp, byte_none _ _ h] at this
 exact this.mono fun e w' ⟨a, b⟩ => ⟨a, b.symm⟩
set_option maxHeartbeats 8000000 in
theorem idx_rune_bad (s : ByteArray) (w : World) (hs : s.size ≤ 100) (hasc : ∀ (j : Nat) (h : j < s.size), (s[j]'h).toNat < 128) :
  Calls Tryz.prog 110 #[.string s, .int .i32 65533] w fun e w' => e = .returned (.int .i64 (-1)) ∧ Below w.heap.size w w' := by
 have HA := Lib.hid hasc
 clear hasc
 go_enter Tryz.func110, Tryz.ntmps110
 go_wp2
 go_loopw [] (fun wr => ∃ pos : Nat, pos ≤ s.size ∧ wr.heap[w.heap.size]? = some (.stringIter s pos) ∧ Below w.heap.size w wr) (fun wr => s.size - wr.iterPos w.heap.size)
 case atStart =>
  refine ⟨0, by omega, ?_, (Below.refl _ _).alloc (Nat.le_refl _) _⟩
  have := World.iter_heap w s 0
  simpa using this
 case round =>
  obtain ⟨pos, hpz, hit, hbw⟩ := hrel
  by_cases hp : pos < s.size
  ·have hnx : ∀ ty, (Instr.next (.pointer (some ⟨w.heap.size, 0, none⟩)) true ty).run Tryz.prog wr = _ := fun ty => Lib.run_next_any_at wr w.heap.size s pos ty hit hp
   have hx := HA.out pos hp
   rw [decode_ascii s pos hp hx] at hnx
   have hit2 := Lib.iterAt_heap wr w.heap.size s pos (pos + 1) hit
   have hbw2 := Lib.below_iterAt hbw (k := w.heap.size) (by omega) s (pos + 1)
   have hne : (((s[pos]'hp).toNat : Int) == 65533) = false := by simp; omega
   generalize ((s[pos]'hp).toNat : Int) = z at *
   have HIT := Lib.hid hit
   have HI := Lib.hid hit2
   clear hit hit2 hbw hx
   go_wp2
   go_roundw
   case rel => exact ⟨pos + 1, by omega, HI.out, hbw2⟩
   case measure => simp only [World.iterPos, HI.out, HIT.out]; omega
  ·have hnx : ∀ ty, (Instr.next (.pointer (some ⟨w.heap.size, 0, none⟩)) true ty).run Tryz.prog wr = _ := fun ty => Lib.run_next_end_at wr w.heap.size s pos ty hit hp
   clear hit
   go_wp2
   go_ret
   exact ⟨rfl, hbw⟩
set_option maxHeartbeats 8000000 in
theorem idx_rune_high (s : ByteArray) (r : Int) (w : World) (_hs : s.size ≤ 100) (hasc : ∀ (j : Nat) (h : j < s.size), (s[j]'h).toNat < 128) (h0 : 128 ≤ r) (hv : Lib.validRune r = true) (hne : r ≠ 65533) :
  Calls Tryz.prog 110 #[.string s, .int .i32 r] w fun e w' => e = .returned (.int .i64 (-1)) ∧ Below w.heap.size w w' := by
 have cV : ∀ wx, Calls Tryz.prog 128 #[.int .i32 r] wx fun e w' => e = .returned (.bool true) ∧ wx = w' := fun wx => (Tryz.utf8_ValidRune r wx).mono fun e w' ⟨a, b⟩ => ⟨by rw [a, hv], b.symm⟩
 obtain ⟨B, m, x, hm, hE, hB, hm3, hx, hx7⟩ := enc_last r h0
 have hne2 : (r == 65533) = false := by simpa using hne
 have h128 : ¬ r < 128 := by omega
 have hr0 : (0 : Int) ≤ r := by omega
 have hnc : ∀ k, (s.data.toList.drop k).contains x = false := by
  intro k
  rw [Bool.eq_false_iff]
  intro hc
  have hmem : x ∈ s.data.toList := List.mem_of_mem_drop (by simpa using hc)
  obtain ⟨j, hj, he⟩ := List.mem_iff_getElem.1 hmem
  have hjs : j < s.size := by simpa using hj
  have := hasc j hjs
  have e2 : s[j]'hjs = s.data.toList[j] := by simp [ByteArray.getElem_eq_getElem_data]
  rw [e2, he] at this
  omega
 have HA := Lib.hid hasc
 have HNC := Lib.hid hnc
 have hBz : (B.size : Int) = (m : Int) + 1 := by omega
 have HB := Lib.hid hB
 clear hasc hv hne h0 hnc hB
 go_enter Tryz.func110, Tryz.ntmps110
 have hcv : ∀ wx, (convert 21 9 (.int .i32 r)).run Tryz.prog wx = .ok (.string B) wx := fun wx => by rw [run_convert_int_string (P := Tryz.prog) wx 21 9 .i32 r (by rw [Tryz.underlying21]; rfl) Tryz.underlying9, hE]
 have HE := Lib.hid hE
 have hmz : (0 : Int) ≤ (m : Int) := by omega
 clear hE
 (go_wp2_with fail); (refine (cV _).mono ?_); (rintro e w' ⟨rfl, rfl⟩)
 go_wp2
 go_step3
 go_wp2
 go_loopw [9, 10] (fun i q wr => i = .int .i64 m ∧ q = .int .i64 0 ∧ Below w.heap.size w wr) (fun _ _ _ => 0)
 case atStart => exact ⟨by go_num, rfl, Below.refl _ _⟩
 case round =>
  obtain ⟨rfl, rfl, hbw⟩ := hrel
  by_cases hlt : m < s.size
  ·have hlz : (m : Int) < (s.size : Int) := by omega
   have hy := HA.out m hlt
   obtain ⟨y, hyd⟩ : ∃ y, s[m]'hlt = y := ⟨_, rfl⟩
   rw [hyd] at hy
   have hxy : (((s[m]'hlt).toNat : Int) != (x.toNat : Int)) = true := by rw [hyd]; simp; omega
   have hmB : (m : Int) < (B.size : Int) := by omega
   have hm3z : (m : Int) ≤ 3 := by omega
   have hw1 : IntKind.i64.wrap ((m : Int) + 1) = (m : Int) + 1 := wrap_small _ (by omega) (by omega)
   have hix : ∀ wx, (Instr.index 9 (.string B) (.int .i64 (m : Int))).run Tryz.prog wx = .ok (.int .u8 (x.toNat : Int)) wx := fun wx => by rw [run_index_string (P := Tryz.prog) (w := wx) 9 B .i64 (m : Int) Tryz.underlying9]; simp [hm, hx, hmz]
   have hsf : ∀ wx, _ := fun wx => slice_from s ((m : Int) + 1) (by omega) (by omega) wx
   have hcn : (s.extract ((m : Int) + 1).toNat s.size).data.toList.contains x = false := by
    have he : (s.extract ((m : Int) + 1).toNat s.size).data.toList = s.data.toList.drop ((m : Int) + 1).toNat := by
     rw [ByteArray.data_extract, Array.toList_extract, List.extract_eq_take_drop]
     apply List.take_of_length_le
     rw [List.length_drop]
     simp
    rw [he]
    exact HNC.out _
   have cI : ∀ wx, Calls Tryz.prog 127 #[.string (s.extract ((m : Int) + 1).toNat s.size), .int .u8 (x.toNat : Int)] wx fun e w' => e = .returned (.int .i64 (-1)) ∧ w' = wx := fun wx => (idx_IndexByte _ x wx hcn).mono fun _ _ ⟨a, b⟩ => ⟨a, b.symm⟩
   generalize s.extract ((m : Int) + 1).toNat s.size = T at *
   have hbw3 : ∀ n, Below w.heap.size w (wr.drewN n) := fun n => below_drewN hbw n
   have HBW := Lib.hid hbw3
   clear hbw3 hbw HNC HA HE HB hy hx7 hyd hcn
   go_wp2
   go_step3
   go_wp2
   go_quiet (fail)
   have hbw4 := HBW.out nq
   clear HBW
   generalize wr.drewN nq = W at *
   go_wp2
   go_quiet (first | (go_at_call 127; exact Calls.quiet_of_same (cI _)))
   go_wp2
   rw [Exit.noGoto_ret]
   simp (config := { zetaDelta := true }) only [go_sem, Exit.inBlock, Exit.then]
   go_ret
   exact ⟨rfl, below_drewN hbw4 _⟩
  ·have hlz : ¬ (m : Int) < (s.size : Int) := by omega
   go_wp2
   go_ret
   exact ⟨rfl, hbw⟩
theorem same_back {P : Program} {f : FuncId} {args : Array Value} {w : World} {x : Ending} (h : Calls P f args w fun e w' => e = x ∧ w' = w) : Calls P f args w fun e w' => e = x ∧ w = w' := h.mono fun _ _ h => ⟨h.1, h.2.symm⟩
theorem decN_cases (N b0 b1 b2 b3 r n : Nat) (hN : 1 ≤ N) (h0 : b0 < 256) (h : 128 ≤ b0) (hd : Lib.decodeN N b0 b1 b2 b3 = (r, n)) :
  (r < 55296 ∨ (57343 < r ∧ r ≤ 1114111)) ∧ n ≤ N ∧ (1 < n → b1 / 64 = 2) ∧ (2 < n → b2 / 64 = 2) ∧ (3 < n → b3 / 64 = 2) ∧ n ≤ 4 := by
 unfold Lib.decodeN at hd
 rw [if_neg (by omega)] at hd
 split at hd
 ·split at hd
  ·obtain ⟨rfl, rfl⟩ := Prod.mk.inj hd
   omega
  ·obtain ⟨rfl, rfl⟩ := Prod.mk.inj hd
   omega
 ·split at hd
  ·split at hd
   ·obtain ⟨rfl, rfl⟩ := Prod.mk.inj hd
    omega
   ·obtain ⟨rfl, rfl⟩ := Prod.mk.inj hd
    omega
  ·split at hd
   ·split at hd
    ·obtain ⟨rfl, rfl⟩ := Prod.mk.inj hd
     omega
    ·obtain ⟨rfl, rfl⟩ := Prod.mk.inj hd
     omega
   ·obtain ⟨rfl, rfl⟩ := Prod.mk.inj hd
    omega
theorem dec_facts (s : ByteArray) (pos : Nat) (hp : pos < s.size) (h : 128 ≤ (s.get! pos).toNat) : Lib.validRune ((Utf8.decode s pos).1 : Int) = true ∧ pos + (Utf8.decode s pos).2 ≤ s.size ∧ ∀ k, k < (Utf8.decode s pos).2 → 128 ≤ (s.get! (pos + k)).toNat := by
 obtain ⟨r, n, hd⟩ : ∃ r n, Utf8.decode s pos = (r, n) := ⟨_, _, rfl⟩
 have hd2 := hd
 rw [Lib.decode_at] at hd2
 obtain ⟨c1, c2, c3, c4, c5, c6⟩ := decN_cases _ _ _ _ _ r n (by omega) (s.get! pos).toNat_lt h hd2
 rw [hd]
 refine ⟨?_, show pos + n ≤ s.size by omega, fun k (hk : k < n) => ?_⟩
 ·show Lib.validRune (r : Int) = true
  unfold Lib.validRune
  rw [decide_eq_true_eq]
  omega
 ·rcases (by omega : k = 0 ∨ k = 1 ∨ k = 2 ∨ k = 3) with rfl | rfl | rfl | rfl
  ·exact h
  ·have := c3 hk; omega
  ·have := c4 hk; omega
  ·have := c5 hk; omega
theorem get_list (s : ByteArray) (j : Nat) (b : UInt8) (h : s.data.toList[j]? = some b) : ∃ hj : j < s.size, s[j]'hj = b := by
 obtain ⟨hj, he⟩ := List.getElem?_eq_some_iff.1 h
 have hjs : j < s.size := by simpa using hj
 refine ⟨hjs, ?_⟩
 rw [← he]
 simp [ByteArray.getElem_eq_getElem_data]
theorem noany_high (s : ByteArray) (cs : List UInt8) (hac : ∀ c ∈ cs, c.toNat < 128) (pos n : Nat) (hno : Lib.NoAny s.data.toList cs pos) (h : ∀ k, k < n → 128 ≤ (s.get! (pos + k)).toNat) : Lib.NoAny s.data.toList cs (pos + n) := by
 intro j b hj hb
 by_cases hlt : j < pos
 ·exact hno j b hlt hb
 ·obtain ⟨hjs, he⟩ := get_list s j b hb
  have h2 := h (j - pos) (by omega)
  rw [show pos + (j - pos) = j by omega, Proofs.Utf8W.get!_of_lt _ _ hjs, he] at h2
  rw [Bool.eq_false_iff]
  intro hc
  have := hac b (by simpa using hc)
  omega
set_option maxHeartbeats 8000000 in
theorem idx_short (s chars : ByteArray) (w : World) (h2 : 2 ≤ chars.size) (hcz : chars.size ≤ 100) (h8 : s.size ≤ 8) (hac : ∀ (j : Nat) (h : j < chars.size), (chars[j]'h).toNat < 128) (hal : ∀ c ∈ chars.data.toList, c.toNat < 128) :
  Calls Tryz.prog 91 #[.string s, .string chars] w fun e w' => e = .returned (.int .i64 (Lib.indexAny s.data.toList chars.data.toList)) ∧ Below w.heap.size w w' := by
 have hemp : chars.toList.isEmpty = false := by
  rw [Lib.toList_data]
  cases h : chars.data.toList with
  | nil => have := Lib.size_eq chars; rw [h, List.length_nil] at this; omega
  | cons _ _ => rfl
 have hn1 : ((chars.size : Int) == 1) = false := beq_eq_false_iff_ne.2 (by omega)
 have h8z : decide ((8 : Int) < (s.size : Int)) = false := decide_eq_false (by omega)
 have cS : ∀ wx, Calls Tryz.prog 111 #[.int .i64 s.size] wx fun e w' => e = .returned (.bool false) ∧ wx = w' := fun wx => (Tryz.strings_shouldUseASCIISet s.size wx).mono fun e w' ⟨a, b⟩ => ⟨by rw [a, h8z], b.symm⟩
 have hsl := Lib.size_eq s
 have HSL := Lib.hid hsl
 have HAC := Lib.hid hac
 have HAL := Lib.hid hal
 clear hsl hac hal h8z
 go_enter Tryz.func91, Tryz.ntmps91
 (go_wp2_with fail); (refine (cS _).mono ?_); (rintro e w' ⟨rfl, rfl⟩)
 go_wp2
 go_loopw [] (fun wr => ∃ pos : Nat, pos ≤ s.size ∧ wr.heap[w.heap.size]? = some (.stringIter s pos) ∧ Below w.heap.size w wr ∧ Lib.NoAny s.data.toList chars.data.toList pos) (fun wr => s.size - wr.iterPos w.heap.size)
 case atStart =>
  refine ⟨0, by omega, ?_, (Below.refl _ _).alloc (Nat.le_refl _) _, Lib.NoAny.zero _ _⟩
  have := World.iter_heap w s 0
  simpa using this
 case round =>
  obtain ⟨pos, hpz, hit, hbw, hno⟩ := hrel
  have hsz : w.heap.size < wr.heap.size := (Array.getElem?_eq_some_iff.1 hit).1
  by_cases hp : pos < s.size
  ·have hnx : ∀ ty, (Instr.next (.pointer (some ⟨w.heap.size, 0, none⟩)) true ty).run Tryz.prog wr = _ := fun ty => Lib.run_next_any_at wr w.heap.size s pos ty hit hp
   obtain ⟨x, hx⟩ : ∃ x : UInt8, s[pos]'hp = x := ⟨_, rfl⟩
   have hxl : s.data.toList[pos]? = some x := by rw [← hx]; exact Lib.data_getElem? s pos hp
   by_cases hx128 : x.toNat < 128
   ·rw [decode_ascii s pos hp (by rw [hx]; exact hx128), hx] at hnx
    have hit2 := Lib.iterAt_heap wr w.heap.size s pos (pos + 1) hit
    have hbw2 := Lib.below_iterAt hbw (k := w.heap.size) (by omega) s (pos + 1)
    have hback : ((x.toNat : Int)).toNat.toUInt8 = x := by simp
    have cI : ∀ wx, _ := fun wx => same_back (Tryz.strings_IndexRune_ascii chars (x.toNat : Int) wx (by omega) (by omega))
    rw [hback] at cI
    have hcon := Lib.contains_iff_indexByte chars.data.toList x
    have HIT := Lib.hid hit
    have HI := Lib.hid hit2
    cases hin : chars.data.toList.contains x
    ·rw [hin] at hcon
     have hlt : ¬ ((0 : Int) ≤ Lib.indexByte chars.data.toList x) := of_decide_eq_false hcon.symm
     have HN := Lib.hid (hno.succ hxl hin)
     generalize Lib.indexByte chars.data.toList x = q at *
     clear hcon hin hno hxl hit hit2 hbw hx hback
     go_wp2_with fail
     refine (cI _).mono ?_
     rintro e w' ⟨rfl, rfl⟩
     go_wp2
     go_roundw
     case rel => exact ⟨pos + 1, by omega, HI.out, hbw2, HN.out⟩
     case measure => simp only [World.iterPos, HI.out, HIT.out]; omega
    ·rw [hin] at hcon
     have hge : (0 : Int) ≤ Lib.indexByte chars.data.toList x := of_decide_eq_true hcon.symm
     have HH := Lib.hid (Lib.indexAny_hit hno hxl hin)
     generalize Lib.indexByte chars.data.toList x = q at *
     clear hcon hin hno hxl hit hit2 hbw hx hback
     go_wp2_with fail
     refine (cI _).mono ?_
     rintro e w' ⟨rfl, rfl⟩
     go_wp2
     go_ret
     exact ⟨by rw [HH.out]; rfl, hbw2⟩
   ·have hg : 128 ≤ (s.get! pos).toNat := by rw [Proofs.Utf8W.get!_of_lt _ _ hp, hx]; omega
    obtain ⟨f1, f2, f3⟩ := dec_facts s pos hp hg
    have hdh := decode_high s pos hp (by rw [hx]; omega)
    have HN := Lib.hid (noany_high s _ HAL.out pos _ hno f3)
    have hit2 := Lib.iterAt_heap wr w.heap.size s pos (pos + (Utf8.decode s pos).2) hit
    have hbw2 := Lib.below_iterAt hbw (k := w.heap.size) (by omega) s (pos + (Utf8.decode s pos).2)
    clear f3 hno hxl hbw hg
    obtain ⟨r, n, hd⟩ : ∃ r n, Utf8.decode s pos = (r, n) := ⟨_, _, rfl⟩
    rw [hd] at hnx f1 f2 hdh hit2 hbw2 HN
    simp only at hnx f1 f2 hdh hit2 hbw2 HN
    have HIT := Lib.hid hit
    have HI := Lib.hid hit2
    have hd1 := hdh.1
    have hd2 := hdh.2
    have cI : ∀ wx, Calls Tryz.prog 110 #[.string chars, .int .i32 (r : Int)] wx fun e w' => e = .returned (.int .i64 (-1)) ∧ Below wx.heap.size wx w' := fun wx => by
     by_cases hr : r = 65533
     ·subst hr
      exact idx_rune_bad chars wx hcz HAC.out
     ·exact idx_rune_high chars (r : Int) wx hcz HAC.out (by omega) f1 (by omega)
    clear hit hit2 f1 hdh hd hx
    go_wp2_with fail
    refine (cI _).mono ?_
    rintro e w2 ⟨rfl, b2⟩
    have HI2 := Lib.hid ((b2.block w.heap.size (Array.getElem?_eq_some_iff.1 HI.out).1).trans HI.out)
    have hbw3 := hbw2.trans (b2.mono (by have := hbw2.size; omega))
    go_wp2
    go_roundw
    case rel => exact ⟨pos + n, by omega, HI2.out, hbw3, HN.out⟩
    case measure => simp only [World.iterPos, HI2.out, HIT.out]; omega
  ·have hnx : ∀ ty, (Instr.next (.pointer (some ⟨w.heap.size, 0, none⟩)) true ty).run Tryz.prog wr = _ := fun ty => Lib.run_next_end_at wr w.heap.size s pos ty hit hp
   obtain rfl : pos = s.size := by omega
   have hz := Lib.indexAny_none (by rw [← HSL.out]; exact hno)
   have HZ := Lib.hid hz
   clear hno hz hit
   go_wp2
   go_ret
   exact ⟨by rw [HZ.out]; rfl, hbw⟩
theorem idx_any (s chars : ByteArray) (w : World) (hs : s.size ≤ 1000000) (h2 : 2 ≤ chars.size) (hcz : chars.size ≤ 100) (hal : ∀ c ∈ chars.data.toList, c.toNat < 128) :
  Calls Tryz.prog 91 #[.string s, .string chars] w fun e w' => e = .returned (.int .i64 (Lib.indexAny s.data.toList chars.data.toList)) ∧ Below w.heap.size w w' := by
 by_cases h8 : s.size ≤ 8
 ·refine idx_short s chars w h2 hcz h8 (fun j h => ?_) hal
  have e2 : chars[j]'h = chars.data.toList[j]'(by simpa using h) := by simp [ByteArray.getElem_eq_getElem_data]
  rw [e2]
  exact hal _ (List.getElem_mem _)
 ·refine (Tryz.strings_IndexAny_long (zero_of_info (n := 256) (by kernel_rfl)).1 s chars w h2 (by omega) (by omega) (by omega) (fun j b hb => hal b (List.mem_of_getElem? hb))).mono ?_
  rintro e w' ⟨he, hw⟩
  refine ⟨he, ?_⟩
  rw [hw]
  exact ((Below.refl _ _).alloc (Nat.le_refl _) _).alloc (by simp) _
end
end Go.Proofs.YtppmoeidgefkpaaGreatDoor
