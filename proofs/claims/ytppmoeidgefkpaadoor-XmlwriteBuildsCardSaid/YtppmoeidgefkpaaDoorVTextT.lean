/- Packed from the texts TextT. -/
import Derived.Test.YtppmoeidgefkpaaDoorVTextK
import Derived.Test.YtppmoeidgefkpaaDoorVTextR
section
namespace Go.Proofs.YtppmoeidgefkpaaDoor
open Go.RowKit Go.Lib
def byteZ (s : ByteArray) (i : Nat) : Int := ((s.get! i).toNat : Int)
def leadZ (k b : Int) : Int := if k = 2 then b % 32 else if k = 3 then b % 16 else if k = 4 then b % 8 else b
def accZ (s : ByteArray) (i : Nat) (k : Int) : Nat → Int
  | 0 => leadZ k (byteZ s i)
  | j + 1 => accZ s i k j * 64 + byteZ s (i + (j + 1)) % 64
theorem byteZ_lt (s : ByteArray) (i : Nat) : 0 ≤ byteZ s i ∧ byteZ s i < 256 := by
  have := (s.get! i).toNat_lt
  unfold byteZ; omega
def hitB (s : ByteArray) (i k : Nat) : Bool := (strOfNums (encZ (accZ s i k (k - 1)))).toList == (s.extract i (i + k)).toList
theorem encZ_lt (r : Int) : ∀ x ∈ encZ r, 0 ≤ x ∧ x < 256 := by
  unfold encZ
  repeat' split
  all_goals (intro x hx; simp at hx)
  all_goals omega
theorem u8_inj {a b : Int} (ha : 0 ≤ a ∧ a < 256) (hb : 0 ≤ b ∧ b < 256) (h : UInt8.ofNat a.toNat = UInt8.ofNat b.toNat) : a = b := by
  have := congrArg UInt8.toNat h
  simp only [UInt8.toNat_ofNat'] at this
  omega
theorem nums_inj : ∀ (xs ys : List Int), (∀ x ∈ xs, 0 ≤ x ∧ x < 256) → (∀ y ∈ ys, 0 ≤ y ∧ y < 256) → (xs.map fun n => UInt8.ofNat n.toNat) = (ys.map fun n => UInt8.ofNat n.toNat) → xs = ys
  | [], [], _, _, _ => rfl
  | [], _ :: _, _, _, h => by simp at h
  | _ :: _, [], _, _, h => by simp at h
  | x :: xs, y :: ys, hx, hy, h => by
    simp only [List.map_cons, List.cons.injEq] at h
    rw [u8_inj (hx x (List.mem_cons_self ..)) (hy y (List.mem_cons_self ..)) h.1, nums_inj xs ys (fun z hz => hx z (List.mem_cons_of_mem _ hz)) (fun z hz => hy z (List.mem_cons_of_mem _ hz)) h.2]
def bytesZ (s : ByteArray) (i k : Nat) : List Int := (List.range k).map fun j => byteZ s (i + j)
theorem extract_bytes (s : ByteArray) (i k : Nat) (h : i + k ≤ s.size) : (s.extract i (i + k)).data.toList = (bytesZ s i k).map fun n => UInt8.ofNat n.toNat := by
  rw [Lib.extract_data]
  apply List.ext_getElem?
  intro j
  by_cases hj : j < k
  · have h1 : i + j < s.size := by omega
    have h2 : i + j < s.data.toList.length := by simpa using h1
    simp [bytesZ, List.getElem?_take_of_lt hj, hj, byteZ, Proofs.Utf8W.get!_of_lt s (i + j) h1, List.getElem?_eq_getElem h2, ByteArray.getElem_eq_getElem_data]
  · rw [List.getElem?_eq_none (by simp; omega), List.getElem?_eq_none (by simp [bytesZ]; omega)]
theorem hit_iff (s : ByteArray) (i k : Nat) (h : i + k ≤ s.size) : hitB s i k = true ↔ encZ (accZ s i k (k - 1)) = bytesZ s i k := by
  unfold hitB
  rw [beq_iff_eq, Lib.toList_data, Lib.toList_data, strOfNums_data, extract_bytes s i k h]
  refine ⟨fun e => nums_inj _ _ (encZ_lt _) (fun y hy => ?_) e, fun e => by rw [e]⟩
  obtain ⟨j, _, rfl⟩ := List.mem_map.1 hy
  exact byteZ_lt s _
theorem acc1 (s : ByteArray) (i : Nat) : accZ s i ((1 : Nat) : Int) (1 - 1) = byteZ s i := by simp [accZ, leadZ]
theorem acc2 (s : ByteArray) (i : Nat) : accZ s i ((2 : Nat) : Int) (2 - 1) = byteZ s i % 32 * 64 + byteZ s (i + 1) % 64 := by simp [accZ, leadZ]
theorem acc3 (s : ByteArray) (i : Nat) : accZ s i ((3 : Nat) : Int) (3 - 1) = (byteZ s i % 16 * 64 + byteZ s (i + 1) % 64) * 64 + byteZ s (i + 2) % 64 := by simp [accZ, leadZ]
theorem acc4 (s : ByteArray) (i : Nat) : accZ s i ((4 : Nat) : Int) (4 - 1) = ((byteZ s i % 8 * 64 + byteZ s (i + 1) % 64) * 64 + byteZ s (i + 2) % 64) * 64 + byteZ s (i + 3) % 64 := by simp [accZ, leadZ]
theorem hit1 (s : ByteArray) (i : Nat) (h : i + 1 ≤ s.size) : hitB s i 1 = true ↔ byteZ s i < 128 := by
  rw [hit_iff s i 1 h, acc1]
  have h0 := byteZ_lt s i
  simp only [bytesZ, List.range, List.range.loop, List.map_cons, List.map_nil, Nat.add_zero, encZ]
  generalize byteZ s i = b0 at *
  repeat' split
  all_goals first | (simp; done) | (simp; omega)
theorem hit2 (s : ByteArray) (i : Nat) (h : i + 2 ≤ s.size) : hitB s i 2 = true ↔ byteZ s i / 32 = 6 ∧ byteZ s (i + 1) / 64 = 2 ∧ 128 ≤ byteZ s i % 32 * 64 + byteZ s (i + 1) % 64 := by
  rw [hit_iff s i 2 h, acc2]
  have h0 := byteZ_lt s i
  have h1 := byteZ_lt s (i + 1)
  simp only [bytesZ, List.range, List.range.loop, List.map_cons, List.map_nil, Nat.add_zero, encZ]
  generalize byteZ s i = b0 at *
  generalize byteZ s (i + 1) = b1 at *
  repeat' split
  all_goals simp only [List.cons.injEq, List.cons_ne_nil, List.nil_eq, and_true, and_false, false_iff]
  all_goals omega
theorem hit3 (s : ByteArray) (i : Nat) (h : i + 3 ≤ s.size) : hitB s i 3 = true ↔ byteZ s i / 16 = 14 ∧ byteZ s (i + 1) / 64 = 2 ∧ byteZ s (i + 2) / 64 = 2 ∧ 2048 ≤ byteZ s i % 16 * 4096 + byteZ s (i + 1) % 64 * 64 + byteZ s (i + 2) % 64 ∧
    ¬ (55296 ≤ byteZ s i % 16 * 4096 + byteZ s (i + 1) % 64 * 64 + byteZ s (i + 2) % 64 ∧ byteZ s i % 16 * 4096 + byteZ s (i + 1) % 64 * 64 + byteZ s (i + 2) % 64 ≤ 57343) := by
  rw [hit_iff s i 3 h, acc3]
  have h0 := byteZ_lt s i
  have h1 := byteZ_lt s (i + 1)
  have h2 := byteZ_lt s (i + 2)
  simp only [bytesZ, List.range, List.range.loop, List.map_cons, List.map_nil, Nat.add_zero, encZ]
  generalize byteZ s i = b0 at *
  generalize byteZ s (i + 1) = b1 at *
  generalize byteZ s (i + 2) = b2 at *
  repeat' split
  all_goals simp only [List.cons.injEq, List.cons_ne_nil, List.nil_eq, and_true, and_false, false_iff]
  all_goals omega
theorem hit4 (s : ByteArray) (i : Nat) (h : i + 4 ≤ s.size) : hitB s i 4 = true ↔ byteZ s i / 8 = 30 ∧ byteZ s (i + 1) / 64 = 2 ∧ byteZ s (i + 2) / 64 = 2 ∧ byteZ s (i + 3) / 64 = 2 ∧
    65536 ≤ byteZ s i % 8 * 262144 + byteZ s (i + 1) % 64 * 4096 + byteZ s (i + 2) % 64 * 64 + byteZ s (i + 3) % 64 ∧ byteZ s i % 8 * 262144 + byteZ s (i + 1) % 64 * 4096 + byteZ s (i + 2) % 64 * 64 + byteZ s (i + 3) % 64 ≤ 1114111 := by
  rw [hit_iff s i 4 h, acc4]
  have h0 := byteZ_lt s i
  have h1 := byteZ_lt s (i + 1)
  have h2 := byteZ_lt s (i + 2)
  have h3 := byteZ_lt s (i + 3)
  simp only [bytesZ, List.range, List.range.loop, List.map_cons, List.map_nil, Nat.add_zero, encZ]
  generalize byteZ s i = b0 at *
  generalize byteZ s (i + 1) = b1 at *
  generalize byteZ s (i + 2) = b2 at *
  generalize byteZ s (i + 3) = b3 at *
  repeat' split
  all_goals simp only [List.cons.injEq, List.cons_ne_nil, List.nil_eq, and_true, and_false, false_iff]
  all_goals omega
theorem dec_bytes (s : ByteArray) (i : Nat) : Utf8.decode s i = decodeN (s.size - i) (s.get! i).toNat (s.get! (i + 1)).toNat (s.get! (i + 2)).toNat (s.get! (i + 3)).toNat := decode_at s i
theorem ne_hit {b : Bool} {p : Prop} (h : b = true ↔ p) (hb : b = false) : ¬ p := fun hp => by rw [h.2 hp] at hb; cases hb
set_option maxRecDepth 100000 in
set_option maxHeartbeats 2000000 in
theorem dec_miss (s : ByteArray) (i : Nat) (hi : i < s.size) (h : ∀ k, 1 ≤ k → k ≤ 4 → i + k ≤ s.size → hitB s i k = false) : decP s i = (0, 0) := by
  have l0 := (s.get! i).toNat_lt
  have l1 := (s.get! (i + 1)).toNat_lt
  have l2 := (s.get! (i + 2)).toNat_lt
  have l3 := (s.get! (i + 3)).toNat_lt
  have hd := dec_bytes s i
  have n1 := ne_hit (hit1 s i (by omega)) (h 1 (by omega) (by omega) (by omega))
  have n2 : i + 2 ≤ s.size → _ := fun e => ne_hit (hit2 s i e) (h 2 (by omega) (by omega) e)
  have n3 : i + 3 ≤ s.size → _ := fun e => ne_hit (hit3 s i e) (h 3 (by omega) (by omega) e)
  have n4 : i + 4 ≤ s.size → _ := fun e => ne_hit (hit4 s i e) (h 4 (by omega) (by omega) e)
  clear h
  unfold byteZ at n1 n2 n3 n4
  unfold decP
  rw [hd]
  generalize (s.get! i).toNat = b0 at *
  generalize (s.get! (i + 1)).toNat = b1 at *
  generalize (s.get! (i + 2)).toNat = b2 at *
  generalize (s.get! (i + 3)).toNat = b3 at *
  clear hd
  rw [if_pos]
  unfold decodeN
  repeat' split
  all_goals first | rfl | (exfalso; omega)
end Go.Proofs.YtppmoeidgefkpaaDoor
end
