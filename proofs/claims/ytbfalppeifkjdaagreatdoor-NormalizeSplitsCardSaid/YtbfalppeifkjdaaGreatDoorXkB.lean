/- Packed from the texts TextD TextK TextT TextE TextM TextU. -/
import Derived.Test.YtbfalppeifkjdaaGreatDoorXShelf
import Derived.Test.YtbfalppeifkjdaaGreatDoorXkA
import Derived.Shelf.Unicode.DecodeSlow
import Derived.Below
import Derived.Deep.RegionWith
import Derived.Deep.LoopGhost
import Derived.IntWalk
section
namespace Go.Proofs.YtbfalppeifkjdaaGreatDoor
open Go.RowKit Go.Lib
def decP (s : ByteArray) (i : Nat) : Nat × Nat :=
  if Utf8.decode s i = (65533, 1) then (0, 0) else Utf8.decode s i
def decI (s : ByteArray) (a : Int) : Nat × Nat := if a < 0 ∨ (s.size : Int) ≤ a then (0, 0) else decP s a.toNat
theorem get!_extract (s : ByteArray) (i j : Nat) : (s.extract i s.size).get! j = s.get! (i + j) := by
  have hl : (s.extract i s.size).size = s.size - i := by simp
  by_cases h : i + j < s.size
  · rw [Utf8W.get!_of_lt _ _ (by omega), Utf8W.get!_of_lt _ _ h]
    simp [ByteArray.getElem_extract]
  · have h1 : ¬ j < (s.extract i s.size).size := by omega
    have out : ∀ (t : ByteArray) (k : Nat), ¬ k < t.size → t.get! k = default := fun t k hk => by
      cases t with
      | mk d => exact getElem!_neg d k hk
    rw [out _ _ h1, out _ _ h]
theorem decodeGo_extract (s : ByteArray) (i : Nat) (h : i < s.size) : decodeGo (s.extract i s.size) = Utf8.decode s i := by
  have hl : (s.extract i s.size).size = s.size - i := by simp
  unfold decodeGo
  rw [if_neg (by omega), decode_at, decode_at, hl]
  simp only [get!_extract, Nat.zero_add, Nat.sub_zero, Nat.add_zero]
def HasUtf8 (w : World) : Prop := Lib.Utf8Tabs 0 1 w
set_option maxHeartbeats 1000000 in
theorem text_Decode (s : ByteArray) (a : Int) (w : World) (_hs : s.size ≤ maxLen) (hT : HasUtf8 w) :
    Calls Tryz.prog 66 #[.string s, .int .i64 a] w fun e w' => e = .returned (.tuple #[.int .i32 (decI s a).1, .int .i64 (decI s a).2]) ∧ Below w.heap.size w w' := by
  by_cases h0 : a < 0
  · rw [decI, if_pos (.inl h0)]
    go_enter Tryz.func66, Tryz.ntmps66
    go_wp2
    all_goals go_ret2
    all_goals exact ⟨rfl, Below.refl _ _⟩
  obtain ⟨n, rfl⟩ := Int.eq_ofNat_of_zero_le (by omega : 0 ≤ a)
  by_cases h1 : s.size ≤ n
  · rw [decI, if_pos (.inr (by omega))]
    go_enter Tryz.func66, Tryz.ntmps66
    go_wp2
    all_goals go_ret2
    all_goals exact ⟨rfl, Below.refl _ _⟩
  have hd : decI s n = decP s n := by rw [decI, if_neg (by omega)]; simp
  rw [hd]
  have hc := Tryz.utf8_DecodeRuneInString (s.extract n s.size) w hT
  rw [decodeGo_extract s n (by omega)] at hc
  unfold decP
  clear hd
  generalize Utf8.decode s n = d at hc ⊢
  obtain ⟨r, m⟩ := d
  by_cases hr : r = 65533 ∧ m = 1
  · obtain ⟨rfl, rfl⟩ := hr
    rw [if_pos rfl]
    go_enter Tryz.func66, Tryz.ntmps66
    go_wp2_with (go_at_call 83; refine hc.mono ?_; rintro e w1 ⟨rfl, hb⟩)
    all_goals go_ret2
    all_goals exact ⟨rfl, hb⟩
  · rw [if_neg (by simpa using hr)]
    by_cases h5 : r = 65533
    · subst h5
      have hm : ((m : Int) == 1) = false := by simp at hr; simp; omega
      go_enter Tryz.func66, Tryz.ntmps66
      go_wp2_with (go_at_call 83; refine hc.mono ?_; rintro e w1 ⟨rfl, hb⟩)
      all_goals go_ret2
      all_goals exact ⟨rfl, hb⟩
    · have hm : ((r : Int) == 65533) = false := by simp; omega
      go_enter Tryz.func66, Tryz.ntmps66
      go_wp2_with (go_at_call 83; refine hc.mono ?_; rintro e w1 ⟨rfl, hb⟩)
      all_goals go_ret2
      all_goals exact ⟨rfl, hb⟩
end Go.Proofs.YtbfalppeifkjdaaGreatDoor
end
section
namespace Go.Proofs.YtbfalppeifkjdaaGreatDoor
open Go.RowKit Go.Lib
set_option maxRecDepth 100000 in
set_option maxHeartbeats 2000000 in
theorem decodeN_ok (n b0 b1 b2 b3 : Nat) (hn : 0 < n) : 1 ≤ (decodeN n b0 b1 b2 b3).2 ∧ (decodeN n b0 b1 b2 b3).2 ≤ n ∧ (decodeN n b0 b1 b2 b3).2 ≤ 4 ∧ (decodeN n b0 b1 b2 b3).1 ≤ 1114111 := by
  unfold decodeN
  repeat' split
  all_goals (simp only; omega)
theorem decP_ok (s : ByteArray) (i : Nat) (h : i < s.size) : i + (decP s i).2 ≤ s.size ∧ (decP s i).2 ≤ 4 ∧ (decP s i).1 ≤ 1114111 ∧ ((decP s i).2 = 0 → (decP s i).1 = 0) := by
  have h1 := decodeN_ok (s.size - i) (s.get! i).toNat (s.get! (i + 1)).toNat (s.get! (i + 2)).toNat (s.get! (i + 3)).toNat (by omega)
  unfold decP
  rw [decode_at]
  generalize decodeN (s.size - i) (s.get! i).toNat (s.get! (i + 1)).toNat (s.get! (i + 2)).toNat (s.get! (i + 3)).toNat = d at *
  obtain ⟨a, b⟩ := d
  simp only at h1 ⊢
  split
  · simp; omega
  · simp only; omega
theorem decI_at (s : ByteArray) (i : Nat) (h : i < s.size) : decI s i = decP s i := by rw [decI, if_neg (by omega)]; simp
theorem decI_zero (s : ByteArray) : decI s 0 = if 0 < s.size then decP s 0 else (0, 0) := by
  by_cases h : 0 < s.size
  · rw [if_pos h]; exact decI_at s 0 h
  · rw [if_neg h, decI, if_pos (.inr (by omega))]
def chkF (s : ByteArray) : Nat → Nat → Nat × Nat
  | 0, i => (i, 0)
  | f + 1, i => if i < s.size then (if (decP s i).2 = 0 then (i, 5) else if isCharB (decP s i).1 then chkF s f (i + (decP s i).2) else (i, 6)) else (i, 0)
theorem chkF_more (s : ByteArray) : ∀ f g i, s.size - i ≤ f → s.size - i ≤ g → chkF s f i = chkF s g i
  | 0, 0, _, _, _ => rfl
  | 0, g + 1, i, h, _ => by rw [chkF, chkF, if_neg (by omega)]
  | f + 1, 0, i, _, h => by rw [chkF, chkF, if_neg (by omega)]
  | f + 1, g + 1, i, h, h' => by
    rw [chkF, chkF]
    by_cases hi : i < s.size
    · rw [if_pos hi, if_pos hi]
      by_cases h0 : (decP s i).2 = 0
      · rw [if_pos h0, if_pos h0]
      · rw [if_neg h0, if_neg h0]
        by_cases hc : isCharB (decP s i).1
        · rw [if_pos hc, if_pos hc]; exact chkF_more s f g _ (by omega) (by omega)
        · rw [if_neg hc, if_neg hc]
    · rw [if_neg hi, if_neg hi]
def chkAt (s : ByteArray) (i : Nat) : Nat × Nat := chkF s (s.size - i) i
theorem chkAt_end (s : ByteArray) (i : Nat) (h : s.size ≤ i) : chkAt s i = (i, 0) := by rw [chkAt, show s.size - i = 0 by omega, chkF]
theorem chkAt_eq (s : ByteArray) (i : Nat) (h : i < s.size) : chkAt s i = if (decP s i).2 = 0 then (i, 5) else if isCharB (decP s i).1 then chkAt s (i + (decP s i).2) else (i, 6) := by
  rw [chkAt, show s.size - i = (s.size - i - 1) + 1 by omega, chkF, if_pos h]
  by_cases h0 : (decP s i).2 = 0
  · rw [if_pos h0, if_pos h0]
  · rw [if_neg h0, if_neg h0, chkAt, chkF_more s _ (s.size - (i + (decP s i).2)) _ (by omega) (by omega)]
def chk (s : ByteArray) : Nat × Nat := chkAt s 0
def nameF (s : ByteArray) : Nat → Nat → Bool
  | 0, _ => true
  | f + 1, i => if i < s.size then (if nameCharB (decP s i).1 then nameF s f (i + (decP s i).2) else false) else true
def nameAt (s : ByteArray) (i : Nat) : Bool := nameF s (s.size - i) i
theorem nameAt_end (s : ByteArray) (i : Nat) (h : s.size ≤ i) : nameAt s i = true := by rw [nameAt, show s.size - i = 0 by omega, nameF]
def isNameB (s : ByteArray) : Bool := if nameStartB (decI s 0).1 then nameAt s (decI s 0).2 else false
theorem isNameB_empty (s : ByteArray) (h : s.size = 0) : isNameB s = false := by
  have h1 : decI s 0 = (0, 0) := by rw [decI_zero, if_neg (by omega)]
  rw [isNameB, h1]; rfl
theorem isNameB_pos (s : ByteArray) (h : 0 < s.size) : isNameB s = if nameStartB (decP s 0).1 then nameAt s (decP s 0).2 else false := by
  have h1 : decI s 0 = decP s 0 := by rw [decI_zero, if_pos h]
  rw [isNameB, h1]
end Go.Proofs.YtbfalppeifkjdaaGreatDoor
end
section
namespace Go.Proofs.YtbfalppeifkjdaaGreatDoor
open Go.RowKit Go.Lib
def byteZ (s : ByteArray) (i : Nat) : Int := ((s.get! i).toNat : Int)
def leadZ (k b : Int) : Int := if k = 2 then b % 32 else if k = 3 then b % 16 else if k = 4 then b % 8 else b
def accZ (s : ByteArray) (i : Nat) (k : Int) : Nat → Int
  | 0 => leadZ k (byteZ s i)
  | j + 1 => accZ s i k j * 64 + byteZ s (i + (j + 1)) % 64
theorem byteZ_lt (s : ByteArray) (i : Nat) : 0 ≤ byteZ s i ∧ byteZ s i < 256 := by
  have := (s.get! i).toNat_lt
  unfold byteZ; omega
theorem byteZ_at (s : ByteArray) (i : Nat) (h : i < s.size) : byteZ s i = (s[i].toNat : Int) := by rw [byteZ, Proofs.Utf8W.get!_of_lt s i h]
def hitB (s : ByteArray) (i k : Nat) : Bool := (strOfNums (encZ (accZ s i k (k - 1)))).toList == (s.extract i (i + k)).toList
theorem encZ_lt (r : Int) : ∀ x ∈ encZ r, 0 ≤ x ∧ x < 256 := by
  unfold encZ
  repeat' split
  all_goals (intro x hx; simp at hx)
  all_goals omega
theorem u8_inj {a b : Int} (ha : 0 ≤ a ∧ a < 256) (hb : 0 ≤ b ∧ b < 256) (h : UInt8.ofNat a.toNat = UInt8.ofNat b.toNat) : a = b := by
  have := congrArg UInt8.toNat h
  simp only [UInt8.toNat_ofNat'] at this
  omega
theorem nums_inj : ∀ (xs ys : List Int), (∀ x ∈ xs, 0 ≤ x ∧ x < 256) → (∀ y ∈ ys, 0 ≤ y ∧ y < 256) → (xs.map fun n => UInt8.ofNat n.toNat) = (ys.map fun n => UInt8.ofNat n.toNat) → xs = ys
  | [], [], _, _, _ => rfl
  | [], _ :: _, _, _, h => by simp at h
  | _ :: _, [], _, _, h => by simp at h
  | x :: xs, y :: ys, hx, hy, h => by
    simp only [List.map_cons, List.cons.injEq] at h
    rw [u8_inj (hx x (List.mem_cons_self ..)) (hy y (List.mem_cons_self ..)) h.1, nums_inj xs ys (fun z hz => hx z (List.mem_cons_of_mem _ hz)) (fun z hz => hy z (List.mem_cons_of_mem _ hz)) h.2]
def bytesZ (s : ByteArray) (i k : Nat) : List Int := (List.range k).map fun j => byteZ s (i + j)
theorem extract_bytes (s : ByteArray) (i k : Nat) (h : i + k ≤ s.size) : (s.extract i (i + k)).data.toList = (bytesZ s i k).map fun n => UInt8.ofNat n.toNat := by
  rw [Lib.extract_data]
  apply List.ext_getElem?
  intro j
  by_cases hj : j < k
  · have h1 : i + j < s.size := by omega
    have h2 : i + j < s.data.toList.length := by simpa using h1
    simp [bytesZ, List.getElem?_take_of_lt hj, hj, byteZ, Proofs.Utf8W.get!_of_lt s (i + j) h1, List.getElem?_eq_getElem h2, ByteArray.getElem_eq_getElem_data]
  · rw [List.getElem?_eq_none (by simp; omega), List.getElem?_eq_none (by simp [bytesZ]; omega)]
theorem hit_iff (s : ByteArray) (i k : Nat) (h : i + k ≤ s.size) : hitB s i k = true ↔ encZ (accZ s i k (k - 1)) = bytesZ s i k := by
  unfold hitB
  rw [beq_iff_eq, Lib.toList_data, Lib.toList_data, strOfNums_data, extract_bytes s i k h]
  refine ⟨fun e => nums_inj _ _ (encZ_lt _) (fun y hy => ?_) e, fun e => by rw [e]⟩
  obtain ⟨j, _, rfl⟩ := List.mem_map.1 hy
  exact byteZ_lt s _
theorem acc1 (s : ByteArray) (i : Nat) : accZ s i ((1 : Nat) : Int) (1 - 1) = byteZ s i := by simp [accZ, leadZ]
theorem acc2 (s : ByteArray) (i : Nat) : accZ s i ((2 : Nat) : Int) (2 - 1) = byteZ s i % 32 * 64 + byteZ s (i + 1) % 64 := by simp [accZ, leadZ]
theorem acc3 (s : ByteArray) (i : Nat) : accZ s i ((3 : Nat) : Int) (3 - 1) = (byteZ s i % 16 * 64 + byteZ s (i + 1) % 64) * 64 + byteZ s (i + 2) % 64 := by simp [accZ, leadZ]
theorem acc4 (s : ByteArray) (i : Nat) : accZ s i ((4 : Nat) : Int) (4 - 1) = ((byteZ s i % 8 * 64 + byteZ s (i + 1) % 64) * 64 + byteZ s (i + 2) % 64) * 64 + byteZ s (i + 3) % 64 := by simp [accZ, leadZ]
theorem hit1 (s : ByteArray) (i : Nat) (h : i + 1 ≤ s.size) : hitB s i 1 = true ↔ byteZ s i < 128 := by
  rw [hit_iff s i 1 h, acc1]
  have h0 := byteZ_lt s i
  simp only [bytesZ, List.range, List.range.loop, List.map_cons, List.map_nil, Nat.add_zero, encZ]
  generalize byteZ s i = b0 at *
  repeat' split
  all_goals first | (simp; done) | (simp; omega)
theorem hit2 (s : ByteArray) (i : Nat) (h : i + 2 ≤ s.size) : hitB s i 2 = true ↔ byteZ s i / 32 = 6 ∧ byteZ s (i + 1) / 64 = 2 ∧ 128 ≤ byteZ s i % 32 * 64 + byteZ s (i + 1) % 64 := by
  rw [hit_iff s i 2 h, acc2]
  have h0 := byteZ_lt s i
  have h1 := byteZ_lt s (i + 1)
  simp only [bytesZ, List.range, List.range.loop, List.map_cons, List.map_nil, Nat.add_zero, encZ]
  generalize byteZ s i = b0 at *
  generalize byteZ s (i + 1) = b1 at *
  repeat' split
  all_goals simp only [List.cons.injEq, List.cons_ne_nil, List.nil_eq, and_true, and_false, false_iff]
  all_goals omega
theorem hit3 (s : ByteArray) (i : Nat) (h : i + 3 ≤ s.size) : hitB s i 3 = true ↔ byteZ s i / 16 = 14 ∧ byteZ s (i + 1) / 64 = 2 ∧ byteZ s (i + 2) / 64 = 2 ∧ 2048 ≤ byteZ s i % 16 * 4096 + byteZ s (i + 1) % 64 * 64 + byteZ s (i + 2) % 64 ∧
    ¬ (55296 ≤ byteZ s i % 16 * 4096 + byteZ s (i + 1) % 64 * 64 + byteZ s (i + 2) % 64 ∧ byteZ s i % 16 * 4096 + byteZ s (i + 1) % 64 * 64 + byteZ s (i + 2) % 64 ≤ 57343) := by
  rw [hit_iff s i 3 h, acc3]
  have h0 := byteZ_lt s i
  have h1 := byteZ_lt s (i + 1)
  have h2 := byteZ_lt s (i + 2)
  simp only [bytesZ, List.range, List.range.loop, List.map_cons, List.map_nil, Nat.add_zero, encZ]
  generalize byteZ s i = b0 at *
  generalize byteZ s (i + 1) = b1 at *
  generalize byteZ s (i + 2) = b2 at *
  repeat' split
  all_goals simp only [List.cons.injEq, List.cons_ne_nil, List.nil_eq, and_true, and_false, false_iff]
  all_goals omega
theorem hit4 (s : ByteArray) (i : Nat) (h : i + 4 ≤ s.size) : hitB s i 4 = true ↔ byteZ s i / 8 = 30 ∧ byteZ s (i + 1) / 64 = 2 ∧ byteZ s (i + 2) / 64 = 2 ∧ byteZ s (i + 3) / 64 = 2 ∧
    65536 ≤ byteZ s i % 8 * 262144 + byteZ s (i + 1) % 64 * 4096 + byteZ s (i + 2) % 64 * 64 + byteZ s (i + 3) % 64 ∧ byteZ s i % 8 * 262144 + byteZ s (i + 1) % 64 * 4096 + byteZ s (i + 2) % 64 * 64 + byteZ s (i + 3) % 64 ≤ 1114111 := by
  rw [hit_iff s i 4 h, acc4]
  have h0 := byteZ_lt s i
  have h1 := byteZ_lt s (i + 1)
  have h2 := byteZ_lt s (i + 2)
  have h3 := byteZ_lt s (i + 3)
  simp only [bytesZ, List.range, List.range.loop, List.map_cons, List.map_nil, Nat.add_zero, encZ]
  generalize byteZ s i = b0 at *
  generalize byteZ s (i + 1) = b1 at *
  generalize byteZ s (i + 2) = b2 at *
  generalize byteZ s (i + 3) = b3 at *
  repeat' split
  all_goals simp only [List.cons.injEq, List.cons_ne_nil, List.nil_eq, and_true, and_false, false_iff]
  all_goals omega
theorem dec_bytes (s : ByteArray) (i : Nat) : Utf8.decode s i = decodeN (s.size - i) (s.get! i).toNat (s.get! (i + 1)).toNat (s.get! (i + 2)).toNat (s.get! (i + 3)).toNat := decode_at s i
theorem decP_ne (s : ByteArray) (i : Nat) (r n : Nat) (h : Utf8.decode s i = (r, n)) (hn : r ≠ 65533 ∨ n ≠ 1) : decP s i = (r, n) := by
  unfold decP
  rw [h, if_neg (by intro e; cases e; omega)]
set_option maxRecDepth 100000 in
set_option maxHeartbeats 2000000 in
theorem dec_hit (s : ByteArray) (i k : Nat) (h1 : 1 ≤ k) (h4 : k ≤ 4) (hk : i + k ≤ s.size) (h : hitB s i k = true) :
    (((decP s i).1 : Nat) : Int) = accZ s i k (k - 1) ∧ (decP s i).2 = k := by
  have l0 := (s.get! i).toNat_lt
  have l1 := (s.get! (i + 1)).toNat_lt
  have l2 := (s.get! (i + 2)).toNat_lt
  have l3 := (s.get! (i + 3)).toNat_lt
  have hd := dec_bytes s i
  rcases (by omega : k = 1 ∨ k = 2 ∨ k = 3 ∨ k = 4) with rfl | rfl | rfl | rfl
  · rw [hit1 s i hk] at h
    rw [acc1]
    unfold byteZ at h ⊢
    generalize (s.get! i).toNat = b0 at *
    rw [decodeN, if_pos (by omega)] at hd
    rw [decP_ne s i _ _ hd (by omega)]
    exact ⟨rfl, rfl⟩
  · rw [hit2 s i hk] at h
    rw [acc2]
    unfold byteZ at h ⊢
    generalize (s.get! i).toNat = b0 at *
    generalize (s.get! (i + 1)).toNat = b1 at *
    rw [decodeN, if_neg (by omega), if_pos (by omega), if_pos (by omega)] at hd
    rw [decP_ne s i _ _ hd (by omega)]
    exact ⟨by simp only; omega, rfl⟩
  · rw [hit3 s i hk] at h
    rw [acc3]
    unfold byteZ at h ⊢
    generalize (s.get! i).toNat = b0 at *
    generalize (s.get! (i + 1)).toNat = b1 at *
    generalize (s.get! (i + 2)).toNat = b2 at *
    rw [decodeN, if_neg (by omega), if_neg (by omega), if_pos (by omega), if_pos (by omega)] at hd
    rw [decP_ne s i _ _ hd (by omega)]
    exact ⟨by simp only; omega, rfl⟩
  · rw [hit4 s i hk] at h
    rw [acc4]
    unfold byteZ at h ⊢
    generalize (s.get! i).toNat = b0 at *
    generalize (s.get! (i + 1)).toNat = b1 at *
    generalize (s.get! (i + 2)).toNat = b2 at *
    generalize (s.get! (i + 3)).toNat = b3 at *
    rw [decodeN, if_neg (by omega), if_neg (by omega), if_neg (by omega), if_pos (by omega), if_pos (by omega)] at hd
    rw [decP_ne s i _ _ hd (by omega)]
    exact ⟨by simp only; omega, rfl⟩
theorem ne_hit {b : Bool} {p : Prop} (h : b = true ↔ p) (hb : b = false) : ¬ p := fun hp => by rw [h.2 hp] at hb; cases hb
set_option maxRecDepth 100000 in
set_option maxHeartbeats 2000000 in
theorem dec_miss (s : ByteArray) (i : Nat) (hi : i < s.size) (h : ∀ k, 1 ≤ k → k ≤ 4 → i + k ≤ s.size → hitB s i k = false) : decP s i = (0, 0) := by
  have l0 := (s.get! i).toNat_lt
  have l1 := (s.get! (i + 1)).toNat_lt
  have l2 := (s.get! (i + 2)).toNat_lt
  have l3 := (s.get! (i + 3)).toNat_lt
  have hd := dec_bytes s i
  have n1 := ne_hit (hit1 s i (by omega)) (h 1 (by omega) (by omega) (by omega))
  have n2 : i + 2 ≤ s.size → _ := fun e => ne_hit (hit2 s i e) (h 2 (by omega) (by omega) e)
  have n3 : i + 3 ≤ s.size → _ := fun e => ne_hit (hit3 s i e) (h 3 (by omega) (by omega) e)
  have n4 : i + 4 ≤ s.size → _ := fun e => ne_hit (hit4 s i e) (h 4 (by omega) (by omega) e)
  clear h
  unfold byteZ at n1 n2 n3 n4
  unfold decP
  rw [hd]
  generalize (s.get! i).toNat = b0 at *
  generalize (s.get! (i + 1)).toNat = b1 at *
  generalize (s.get! (i + 2)).toNat = b2 at *
  generalize (s.get! (i + 3)).toNat = b3 at *
  clear hd
  rw [if_pos]
  unfold decodeN
  repeat' split
  all_goals first | rfl | (exfalso; omega)
end Go.Proofs.YtbfalppeifkjdaaGreatDoor
end
section
namespace Go.Proofs.YtbfalppeifkjdaaGreatDoor
open Go.RowKit
def sp (c : UInt8) : Bool := isSpaceB (c.toNat : Int)
def colGo : Bool → Bool → List UInt8 → List UInt8
  | _, _, [] => []
  | st, pv, c :: r => if sp c then colGo st true r else if st && pv then 32 :: c :: colGo true false r else c :: colGo true false r
def collapse (l : List UInt8) : List UInt8 := colGo false false l
def pvAt (l : List UInt8) (k : Nat) : Bool := match k with | 0 => false | j + 1 => sp (l.getD j 0)
theorem pvAt_succ (l : List UInt8) (j : Nat) : pvAt l (j + 1) = sp (l.getD j 0) := rfl
theorem drop_at (l : List UInt8) (k : Nat) (h : k < l.length) : l.drop k = l[k] :: l.drop (k + 1) := List.drop_eq_getElem_cons h
theorem getD_at (l : List UInt8) (k : Nat) (h : k < l.length) : l.getD k 0 = l[k] := by simp [List.getD, h]
def ColRel (l acc : List UInt8) (k : Nat) : Prop := collapse l = acc ++ colGo (!acc.isEmpty) (pvAt l k) (l.drop k) ∧ acc.length ≤ k ∧ (acc ≠ [] → pvAt l k = true → acc.length + 1 ≤ k)
theorem ColRel.start (l : List UInt8) : ColRel l [] 0 := ⟨by simp [collapse, pvAt], by simp, fun h => absurd rfl h⟩
theorem ColRel.space {l acc : List UInt8} {k : Nat} (h : ColRel l acc k) (hk : k < l.length) (hs : sp l[k] = true) : ColRel l acc (k + 1) := by
  obtain ⟨h1, h2, h3⟩ := h
  refine ⟨?_, by omega, fun _ _ => by omega⟩
  rw [h1, drop_at l k hk, colGo, if_pos hs, pvAt_succ, getD_at l k hk, hs]
theorem ColRel.one {l acc : List UInt8} {k : Nat} (h : ColRel l acc k) (hk : k < l.length) (hs : sp l[k] = false) (hn : (!acc.isEmpty && pvAt l k) = false) : ColRel l (acc ++ [l[k]]) (k + 1) := by
  obtain ⟨h1, h2, h3⟩ := h
  refine ⟨?_, by simp; omega, fun _ hp => ?_⟩
  · rw [h1, drop_at l k hk, colGo, if_neg (by simp [hs]), if_neg (by simp [hn]), pvAt_succ, getD_at l k hk, hs]
    cases acc <;> simp
  · rw [pvAt_succ, getD_at l k hk, hs] at hp; cases hp
theorem ColRel.two {l acc : List UInt8} {k : Nat} (h : ColRel l acc k) (hk : k < l.length) (hs : sp l[k] = false) (hn : (!acc.isEmpty && pvAt l k) = true) : ColRel l (acc ++ [32] ++ [l[k]]) (k + 1) := by
  obtain ⟨h1, h2, h3⟩ := h
  rw [Bool.and_eq_true] at hn
  have h4 := h3 (by intro e; rw [e] at hn; simp at hn) hn.2
  refine ⟨?_, by simp; omega, fun _ hp => ?_⟩
  · rw [h1, drop_at l k hk, colGo, if_neg (by simp [hs]), if_pos (by simp [hn]), pvAt_succ, getD_at l k hk, hs]
    cases acc <;> simp
  · rw [pvAt_succ, getD_at l k hk, hs] at hp; cases hp
theorem ColRel.done {l acc : List UInt8} {k : Nat} (h : ColRel l acc k) (hk : l.length ≤ k) : acc = collapse l := by
  rw [h.1, List.drop_eq_nil_of_le hk, colGo, List.append_nil]
theorem info_u8 : (Tryz.prog.info? 5).map (fun i => (i.zero, i.size, i.bytes)) = some (some (.int .u8 0), 1, 1) := by kernel_rfl
set_option maxRecDepth 100000 in
set_option maxHeartbeats 2000000 in
theorem text_Collapse (s : ByteArray) (w : World) (hs : s.size ≤ 70368744177664) :
    Calls Tryz.prog 27 #[.string s] w fun e w' => e = .returned (.string (ofBytes (collapse s.data.toList))) ∧ Below w.heap.size w w' := by
  obtain ⟨i0, hi, hz0, hz1, hz2⟩ := info_parts info_u8
  have hsl : s.data.toList.length = s.size := by simp
  have HSL := Lib.hid hsl
  clear hsl
  go_enter Tryz.func27, Tryz.ntmps27
  go_wp2_with (refine wpList_make_own _ rfl _ _ 81 rfl w.heap.size 5 i0 (.int .u8 0) 1 Tryz.underlying81 hi hz0 hz1 .i64 .i64 s.size s.size rfl rfl rfl (by rw [hz2]; omega) (by unfold maxLen; omega) (Nat.le_refl _) ?_; intro w1 hown hgr)
  have hbel1 : Below w.heap.size w w1 := (Below.refl _ _).grown hgr (Nat.le_refl _) (fun k h => by cases h)
  clear hgr
  go_loopw [3, 10] (fun v i wr => ∃ (k : Nat) (acc : List UInt8) (A : Option Addr) (c : Nat), k ≤ s.size ∧ i = .int .i64 k ∧ v = .slice A acc.length c ∧ wr.ownsRow w.heap.size 5 1 (.slice A acc.length c) acc.length (u8s acc) ∧ ColRel s.data.toList acc k ∧ Below w.heap.size w wr) (fun _ i _ => s.size - (intOf i).toNat)
  case atStart => exact ⟨0, [], _, s.size, by omega, rfl, rfl, hown, ColRel.start _, hbel1⟩
  case round =>
    obtain ⟨k, acc, A, c, hk, rfl, rfl, hown, hrel, hbel⟩ := hrel
    have hz := hbel.size
    by_cases hlt : k < s.size
    · obtain ⟨x, hx⟩ : ∃ x, s[k]'hlt = x := ⟨_, rfl⟩
      have hxl : s.data.toList[k]'(by simpa using hlt) = x := by rw [← hx]; simp [ByteArray.getElem_eq_getElem_data]
      have hc1 := text_IsSpace (x.toNat : Int)
      have hle : acc.length ≤ k := hrel.2.1
      rcases hsp : sp x with _ | _
      · have hc1 : ∀ wx, Calls Tryz.prog 48 #[.int .u8 (x.toNat : Int)] wx fun e w' => e = .returned (.bool false) ∧ wx = w' := fun wx => by
          have := hc1 wx; rw [show isSpaceB (x.toNat : Int) = false from hsp] at this; exact this
        have H1 : ColRel s.data.toList acc k ∧ sp (s.data.toList[k]'(by simpa using hlt)) = false := ⟨hrel, by rw [hxl]; exact hsp⟩
        have HX := Lib.hid hxl
        clear hxl hsp hrel
        by_cases hac : acc = []
        · have hl0 : acc.length ≤ 0 := by rw [hac]; exact Nat.le_refl _
          have hl0z : ¬ (0 : Int) < (acc.length : Int) := by omega
          have hemp : acc.isEmpty = true := by rw [hac]; rfl
          have R := H1.1.one (by simpa using hlt) H1.2 (by rw [hemp]; rfl)
          rw [HX.out] at R
          clear H1 hac hemp
          go_wp2_with (first | (go_at_call 48; refine (hc1 _).mono ?_; rintro e w' ⟨rfl, rfl⟩) | (at_builtin; refine wpList_append_own _ rfl (.tmp 30) (.tmp 34) 81 rfl w.heap.size 5 i0 (.int .u8 0) 1 1 Tryz.underlying81 hi hz0 hz1 hz2 rfl (by decide) (.slice A acc.length c) acc.length (u8s acc) rfl (hown.alloc _) ⟨wr.heap.size, 0, none⟩ 1 1 [.int .u8 (x.toNat : Int)] rfl rfl (cell_one_new _ _ _) (by intro u hu; simp at hu; subst hu; rfl) (by unfold maxLen; omega) (by omega) (by simp; omega) ?_; intro v' w2 hown' hgr' _))
          obtain ⟨A', c', hv', hown2⟩ := own_push hown'
          have hb2 : Below w.heap.size w w2 := (hbel.alloc hz _).grown hgr' (by simp; omega) (fun g hg => (hown.lt g hg).1)
          go_roundw
          case rel => exact ⟨k + 1, _, A', c', by omega, by go_num, hv', hown2, R, hb2⟩
          case measure => simp [intOf]; omega
        · have hpos : 0 < acc.length := List.length_pos_iff.2 hac
          have hposz : (0 : Int) < (acc.length : Int) := by omega
          have hemp : acc.isEmpty = false := by cases acc with | nil => exact absurd rfl hac | cons _ _ => rfl
          obtain ⟨j, rfl⟩ : ∃ j, k = j + 1 := ⟨k - 1, by omega⟩
          have hjs : j < s.size := by omega
          obtain ⟨y, hy⟩ : ∃ y, s[j]'hjs = y := ⟨_, rfl⟩
          have hpv : pvAt s.data.toList (j + 1) = sp y := by rw [pvAt_succ, getD_at _ _ (by simpa using hjs), ← hy]; simp [ByteArray.getElem_eq_getElem_data]
          rcases hsy : sp y with _ | _
          · have hc2 : ∀ wx, Calls Tryz.prog 48 #[.int .u8 (y.toNat : Int)] wx fun e w' => e = .returned (.bool false) ∧ wx = w' := fun wx => by
              have := text_IsSpace (y.toNat : Int) wx; rw [show isSpaceB (y.toNat : Int) = false from hsy] at this; exact this
            have R := H1.1.one (by simpa using hlt) H1.2 (by rw [hemp, hpv, hsy]; rfl)
            rw [HX.out] at R
            clear H1 hac hemp hpv hsy
            go_wp2_with (first | (go_at_call_of 48 (Value.int .u8 (x.toNat : Int)); refine (hc1 _).mono ?_; rintro e w' ⟨rfl, rfl⟩) | (go_at_call_of 48 (Value.int .u8 (y.toNat : Int)); refine (hc2 _).mono ?_; rintro e w' ⟨rfl, rfl⟩) | (at_builtin; refine wpList_append_own _ rfl (.tmp 30) (.tmp 34) 81 rfl w.heap.size 5 i0 (.int .u8 0) 1 1 Tryz.underlying81 hi hz0 hz1 hz2 rfl (by decide) (.slice A acc.length c) acc.length (u8s acc) rfl (hown.alloc _) ⟨wr.heap.size, 0, none⟩ 1 1 [.int .u8 (x.toNat : Int)] rfl rfl (cell_one_new _ _ _) (by intro u hu; simp at hu; subst hu; rfl) (by unfold maxLen; omega) (by omega) (by simp; omega) ?_; intro v' w2 hown' hgr' _))
            obtain ⟨A', c', hv', hown2⟩ := own_push hown'
            have hb2 : Below w.heap.size w w2 := (hbel.alloc hz _).grown hgr' (by simp; omega) (fun g hg => (hown.lt g hg).1)
            go_roundw
            case rel => exact ⟨j + 1 + 1, _, A', c', by omega, by go_num, hv', hown2, R, hb2⟩
            case measure => simp [intOf]; omega
          · have hc2 : ∀ wx, Calls Tryz.prog 48 #[.int .u8 (y.toNat : Int)] wx fun e w' => e = .returned (.bool true) ∧ wx = w' := fun wx => by
              have := text_IsSpace (y.toNat : Int) wx; rw [show isSpaceB (y.toNat : Int) = true from hsy] at this; exact this
            have R := H1.1.two (by simpa using hlt) H1.2 (by rw [hemp, hpv, hsy]; rfl)
            have hroom := R.2.1
            rw [HX.out] at R
            simp only [List.length_append, List.length_cons, List.length_nil] at hroom
            clear H1 hac hemp hpv hsy
            go_wp2_with (first | (go_at_call_of 48 (Value.int .u8 (x.toNat : Int)); refine (hc1 _).mono ?_; rintro e w' ⟨rfl, rfl⟩) | (go_at_call_of 48 (Value.int .u8 (y.toNat : Int)); refine (hc2 _).mono ?_; rintro e w' ⟨rfl, rfl⟩) | (at_builtin; refine wpList_append_own _ rfl (.tmp 27) (.tmp 28) 81 rfl w.heap.size 5 i0 (.int .u8 0) 1 1 Tryz.underlying81 hi hz0 hz1 hz2 rfl (by decide) (.slice A acc.length c) acc.length (u8s acc) rfl (hown.alloc _) ⟨wr.heap.size, 0, none⟩ 1 1 [.int .u8 32] rfl rfl (cell_one_new _ _ _) (by intro u hu; simp at hu; subst hu; rfl) (by unfold maxLen; omega) (by omega) (by simp; omega) ?_; intro v1 w1' hown1 hgr1 _; obtain ⟨A1, c1, hv1, hownB⟩ := own_push (x := 32) hown1; rw [List.length_append, List.length_cons, List.length_nil, Nat.zero_add] at hv1 hownB; subst hv1; have hbB : Below w.heap.size w w1' := (hbel.alloc hz _).grown hgr1 (by simp; omega) (fun g hg => (hown.lt g hg).1); have hzB := hbB.size) | (at_builtin; refine wpList_append_own _ rfl (.tmp 30) (.tmp 34) 81 rfl w.heap.size 5 i0 (.int .u8 0) 1 1 Tryz.underlying81 hi hz0 hz1 hz2 rfl (by decide) (.slice A1 (acc.length + 1) c1) (acc.length + 1) (u8s (acc ++ [32])) rfl (hownB.alloc _) ⟨w1'.heap.size, 0, none⟩ 1 1 [.int .u8 (x.toNat : Int)] rfl rfl (cell_one_new _ _ _) (by intro u hu; simp at hu; subst hu; rfl) (by unfold maxLen; omega) (by omega) (by simp; omega) ?_; intro v' w2 hown' hgr' _))
            obtain ⟨A', c', hv', hown2⟩ := own_push (acc := acc ++ [32]) (by rw [List.length_append, List.length_cons, List.length_nil, Nat.zero_add]; exact hown')
            have hb2 : Below w.heap.size w w2 := (hbB.alloc hzB _).grown hgr' (by simp; omega) (fun g hg => (hownB.lt g hg).1)
            go_roundw
            case rel => exact ⟨j + 1 + 1, _, A', c', by omega, by go_num, hv', hown2, R, hb2⟩
            case measure => simp [intOf]; omega
      · have hc1 : ∀ wx, Calls Tryz.prog 48 #[.int .u8 (x.toNat : Int)] wx fun e w' => e = .returned (.bool true) ∧ wx = w' := fun wx => by
          have := hc1 wx; rw [show isSpaceB (x.toNat : Int) = true from hsp] at this; exact this
        have H1 := hrel.space (by simpa using hlt) (by rw [hxl]; exact hsp)
        clear hxl hsp hrel
        go_wp2_with (go_at_call 48; refine (hc1 _).mono ?_; rintro e w' ⟨rfl, rfl⟩)
        go_roundw
        case rel => exact ⟨k + 1, acc, A, c, by omega, by go_num, rfl, hown, H1, hbel⟩
        case measure => simp [intOf]; omega
    · have H1 := hrel.done (by simp; omega)
      have hcv : ∀ dst, _ := fun dst hd => convert_own (dst := dst) (P := Tryz.prog) Tryz.underlying81 Tryz.underlying5 hd hown
      have hcv' := hcv 9 Tryz.underlying9
      clear hcv hown hrel
      subst H1
      go_wp2
      go_ret
      exact ⟨rfl, hbel⟩
end Go.Proofs.YtbfalppeifkjdaaGreatDoor
end
section
namespace Go.Proofs.YtbfalppeifkjdaaGreatDoor
open Go.RowKit Go.Lib
theorem sp32 : sp 32 = true := by decide
theorem colGo_cons_sp (st pv : Bool) (c : UInt8) (r : List UInt8) (h : sp c = true) : colGo st pv (c :: r) = colGo st true r := by rw [colGo, if_pos h]
theorem colGo_cons_no (st pv : Bool) (c : UInt8) (r : List UInt8) (h : sp c = false) : colGo st pv (c :: r) = if st && pv then 32 :: c :: colGo true false r else c :: colGo true false r := by
  rw [colGo, if_neg (by simp [h])]
theorem colGo_again : ∀ (l : List UInt8) (pv : Bool), colGo true false (colGo true pv l) = colGo true pv l
  | [], _ => rfl
  | c :: r, pv => by
    rcases h : sp c with _ | _
    · rw [colGo_cons_no _ _ _ _ h]
      have ih := colGo_again r false
      cases pv
      · simp only [Bool.and_false, Bool.false_eq_true, if_false]
        rw [colGo_cons_no _ _ _ _ h, ih]; rfl
      · simp only [Bool.and_true, if_true]
        rw [colGo_cons_sp _ _ _ _ sp32, colGo_cons_no _ _ _ _ h, ih]; rfl
    · rw [colGo_cons_sp _ _ _ _ h]; exact colGo_again r true
theorem collapse_again' : ∀ (l : List UInt8) (pv : Bool), colGo false false (colGo false pv l) = colGo false pv l
  | [], _ => rfl
  | c :: r, pv => by
    rcases h : sp c with _ | _
    · rw [colGo_cons_no _ _ _ _ h]
      simp only [Bool.false_and, Bool.false_eq_true, if_false]
      rw [colGo_cons_no _ _ _ _ h, colGo_again r false]; rfl
    · rw [colGo_cons_sp _ _ _ _ h]; exact collapse_again' r true
theorem collapse_again (l : List UInt8) : collapse (collapse l) = collapse l := collapse_again' l false
theorem get_left (s t : ByteArray) (i : Nat) (h : i < s.size) : (s ++ t).get! i = s.get! i := by
  rw [Proofs.Utf8W.get!_of_lt _ i (by rw [ByteArray.size_append]; omega), Proofs.Utf8W.get!_of_lt _ i h]
  exact ByteArray.getElem_append_left h
theorem get_right (s t : ByteArray) (j : Nat) : (s ++ t).get! (s.size + j) = t.get! j := by
  have out : ∀ (u : ByteArray) (k : Nat), ¬ k < u.size → u.get! k = default := fun u k hk => by
    cases u with
    | mk d => exact getElem!_neg d k hk
  by_cases h : j < t.size
  · rw [Proofs.Utf8W.get!_of_lt _ _ (by rw [ByteArray.size_append]; omega), Proofs.Utf8W.get!_of_lt _ j h]
    rw [ByteArray.getElem_append_right (by omega)]
    congr 1
    omega
  · rw [out _ _ (by rw [ByteArray.size_append]; omega), out _ _ h]
theorem dec_right (s t : ByteArray) (j : Nat) : decP (s ++ t) (s.size + j) = decP t j := by
  unfold decP
  rw [dec_bytes, dec_bytes]
  have hz : (s ++ t).size - (s.size + j) = t.size - j := by rw [ByteArray.size_append]; omega
  rw [hz, get_right, Nat.add_assoc, get_right, Nat.add_assoc, get_right, Nat.add_assoc, get_right]
theorem byteZ_left (s t : ByteArray) (i : Nat) (h : i < s.size) : byteZ (s ++ t) i = byteZ s i := by unfold byteZ; rw [get_left s t i h]
theorem accZ_left (s t : ByteArray) (i : Nat) (k : Int) : ∀ j, i + j < s.size → accZ (s ++ t) i k j = accZ s i k j
  | 0, h => by rw [accZ, accZ, byteZ_left s t i (by omega)]
  | j + 1, h => by rw [accZ, accZ, accZ_left s t i k j (by omega), byteZ_left s t _ (by omega)]
theorem bytesZ_left (s t : ByteArray) (i k : Nat) (h : i + k ≤ s.size) : bytesZ (s ++ t) i k = bytesZ s i k := by
  unfold bytesZ
  apply List.map_congr_left
  intro j hj
  have := List.mem_range.1 hj
  exact byteZ_left s t _ (by omega)
theorem hit_left (s t : ByteArray) (i k : Nat) (hk : 1 ≤ k) (h : i + k ≤ s.size) : hitB (s ++ t) i k = hitB s i k := by
  rw [Bool.eq_iff_iff, hit_iff _ i k (by rw [ByteArray.size_append]; omega), hit_iff s i k h, bytesZ_left s t i k h, accZ_left s t i k (k - 1) (by omega)]
theorem dec_left (s t : ByteArray) (i : Nat) (hi : i < s.size) (hm : (decP s i).2 ≠ 0) : decP (s ++ t) i = decP s i := by
  have hex : ∃ k, 1 ≤ k ∧ k ≤ 4 ∧ i + k ≤ s.size ∧ hitB s i k = true := by
    apply Classical.byContradiction
    intro hno
    apply hm
    rw [dec_miss s i hi fun k h1 h2 h3 => by
      cases hb : hitB s i k
      · rfl
      · exact absurd ⟨k, h1, h2, h3, hb⟩ hno]
  obtain ⟨k, h1, h2, h3, hb⟩ := hex
  have a1 := dec_hit s i k h1 h2 h3 hb
  have a2 := dec_hit (s ++ t) i k h1 h2 (by rw [ByteArray.size_append]; omega) (by rw [hit_left s t i k h1 h3]; exact hb)
  rw [accZ_left s t i k (k - 1) (by omega)] at a2
  apply Prod.ext
  · omega
  · rw [a1.2, a2.2]
theorem chk_left (s t : ByteArray) : ∀ f i, s.size - i ≤ f → i ≤ s.size → (chkAt s i).2 = 0 → chkAt (s ++ t) i = chkAt (s ++ t) s.size
  | 0, i, h, hi, _ => by rw [show i = s.size by omega]
  | f + 1, i, h, hi, hc => by
    by_cases hlt : i < s.size
    · rw [chkAt_eq s i hlt] at hc
      by_cases h0 : (decP s i).2 = 0
      · rw [if_pos h0] at hc; simp at hc
      · rw [if_neg h0] at hc
        by_cases hch : isCharB (decP s i).1
        · rw [if_pos hch] at hc
          have hok := (decP_ok s i hlt).1
          rw [chkAt_eq (s ++ t) i (by rw [ByteArray.size_append]; omega), dec_left s t i hlt h0, if_neg h0, if_pos hch]
          exact chk_left s t f _ (by omega) hok hc
        · rw [if_neg hch] at hc; simp at hc
    · rw [show i = s.size by omega]
theorem chk_right (s t : ByteArray) : ∀ f j, t.size - j ≤ f → j ≤ t.size → chkAt (s ++ t) (s.size + j) = (s.size + (chkAt t j).1, (chkAt t j).2)
  | 0, j, h, hj => by
    rw [chkAt_end t j (by omega), chkAt_end _ _ (by rw [ByteArray.size_append]; omega)]
  | f + 1, j, h, hj => by
    by_cases hlt : j < t.size
    · rw [chkAt_eq t j hlt, chkAt_eq (s ++ t) (s.size + j) (by rw [ByteArray.size_append]; omega), dec_right]
      by_cases h0 : (decP t j).2 = 0
      · rw [if_pos h0, if_pos h0]
      · rw [if_neg h0, if_neg h0]
        by_cases hch : isCharB (decP t j).1
        · rw [if_pos hch, if_pos hch, Nat.add_assoc]
          exact chk_right s t f _ (by omega) (decP_ok t j hlt).1
        · rw [if_neg hch, if_neg hch]
    · rw [chkAt_end t j (by omega), chkAt_end _ _ (by rw [ByteArray.size_append]; omega)]
theorem chk_append (s t : ByteArray) (h : (chk s).2 = 0) : chk (s ++ t) = (s.size + (chk t).1, (chk t).2) := by
  have h1 := chk_left s t _ 0 (Nat.le_refl _) (Nat.zero_le _) h
  have h2 := chk_right s t _ 0 (Nat.le_refl _) (Nat.zero_le _)
  unfold chk
  rw [h1]
  exact h2
end Go.Proofs.YtbfalppeifkjdaaGreatDoor
end
section
namespace Go.Proofs.YtbfalppeifkjdaaGreatDoor
open Go.RowKit Go.Lib
def Missed (s : ByteArray) (n k : Nat) : Prop := ∀ j, 1 ≤ j → j < k → n + j ≤ s.size → hitB s n j = false
theorem Missed.all {s : ByteArray} {n k : Nat} (h : Missed s n k) (hn : n < s.size) (hk : 5 ≤ k ∨ s.size < n + k) : decP s n = (0, 0) :=
  dec_miss s n hn fun j h1 h2 h3 => h j h1 (by omega) h3
end Go.Proofs.YtbfalppeifkjdaaGreatDoor
end
