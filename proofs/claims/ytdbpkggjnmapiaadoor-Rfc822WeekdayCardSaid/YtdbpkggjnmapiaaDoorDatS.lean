/- Plain functions of layer 3: the numbers of a string's bytes, groups of digits, the form of a date and time written and read. -/
import Derived.Test.YtdbpkggjnmapiaaDoorCivQ
import Derived.Laws.BytesArg
namespace Go.Proofs.YtdbpkggjnmapiaaDoor
open Go.RowKit

/-- The numbers of a string's bytes. -/
def zs (s : ByteArray) : List Int := s.data.toList.map fun c => (c.toNat : Int)
theorem zs_length (s : ByteArray) : (zs s).length = s.size := by simp [zs]
theorem zs_bytes (s : ByteArray) : ∀ x ∈ zs s, 0 ≤ x ∧ x < 256 := by
  intro x hx
  obtain ⟨c, _, rfl⟩ := List.mem_map.1 hx
  have := c.toNat_lt
  omega
theorem zs_str (l : List Int) (h : ∀ x ∈ l, 0 ≤ x ∧ x < 256) : zs (strOfNums l) = l := by
  unfold zs
  rw [strOfNums_data, List.map_map]
  conv => rhs; rw [← List.map_id l]
  refine List.map_congr_left fun x hx => ?_
  have := h x hx
  simp only [Function.comp, id, UInt8.toNat_ofNat']
  omega
theorem zs_list (l : List Int) : (strOfNums l).data.toList = l.map fun n => UInt8.ofNat n.toNat := strOfNums_data l
theorem str_ext {a b : ByteArray} (h : a.data.toList = b.data.toList) : a = b := by
  cases a; cases b; simp at h; simp [h]
theorem str_zs (s : ByteArray) : strOfNums (zs s) = s := by
  apply str_ext
  rw [strOfNums_data, zs, List.map_map]
  conv => rhs; rw [← List.map_id s.data.toList]
  refine List.map_congr_left fun x _ => ?_
  simp
theorem str_app (a b : List Int) : strOfNums a ++ strOfNums b = strOfNums (a ++ b) := by
  apply str_ext
  simp [strOfNums]
theorem str_size (a : List Int) : (strOfNums a).size = a.length := strOfNums_size a
/-- The byte at an offset, or -1. -/
def ch (l : List Int) (i : Nat) : Int := l.getD i (-1)
theorem ch_at (s : ByteArray) (i : Nat) (h : i < s.size) : ch (zs s) i = (s[i].toNat : Int) := by
  unfold ch zs
  rw [List.getD_eq_getElem?_getD, List.getElem?_map, List.getElem?_eq_getElem (by simpa using h)]
  simp [ByteArray.getElem_eq_getElem_data]
theorem ch_out (s : ByteArray) (i : Nat) (h : s.size ≤ i) : ch (zs s) i = -1 := by
  unfold ch
  rw [List.getD_eq_getElem?_getD, List.getElem?_eq_none (by rw [zs_length]; exact h)]
  rfl
theorem ch_lt (s : ByteArray) (i : Nat) (h : i < s.size) : 0 ≤ ch (zs s) i ∧ ch (zs s) i < 256 := by
  rw [ch_at s i h]; have := (s[i]).toNat_lt; omega
theorem drop_ch (l : List Int) (i : Nat) (h : i < l.length) : l.drop i = ch l i :: l.drop (i + 1) := by
  rw [List.drop_eq_getElem_cons h]; unfold ch; simp [List.getD, h]
def dgB (c : Int) : Bool := decide (48 ≤ c ∧ c ≤ 57)
theorem dgB_iff (c : Int) : dgB c = true ↔ 48 ≤ c ∧ c ≤ 57 := by unfold dgB; exact decide_eq_true_iff
def isL (l : List Int) (i : Nat) (a b : Int) : Bool := ch l i == a || ch l i == b
/-- The number with so many digits, or -1. -/
def numGo : Nat → List Int → Int → Int
  | 0, _, acc => acc
  | _ + 1, [], _ => -1
  | w + 1, c :: r, acc => if dgB c then numGo w r (acc * 10 + (c - 48)) else -1
def numL (l : List Int) (i w : Nat) : Int := numGo w (l.drop i) 0
theorem numGo_short : ∀ (w : Nat) (l : List Int) (acc : Int), l.length < w → numGo w l acc = -1
  | 0, _, _, h => absurd h (by omega)
  | _ + 1, [], _, _ => rfl
  | w + 1, c :: r, acc, h => by
    rw [numGo]
    split
    · exact numGo_short w r _ (by simp at h; omega)
    · rfl
theorem numL_short (l : List Int) (i w : Nat) (h : l.length < i + w) (hw : 0 < w) : numL l i w = -1 := numGo_short w _ _ (by simp; omega)
theorem numGo_bd : ∀ (w : Nat) (l : List Int) (acc : Int), 0 ≤ acc → numGo w l acc = -1 ∨ (acc * 10 ^ w ≤ numGo w l acc ∧ numGo w l acc < (acc + 1) * 10 ^ w)
  | 0, _, acc, h => by rw [numGo]; right; simp; omega
  | _ + 1, [], _, _ => .inl rfl
  | w + 1, c :: r, acc, h => by
    rw [numGo]
    split
    · rename_i hd
      rw [dgB_iff] at hd
      rcases numGo_bd w r (acc * 10 + (c - 48)) (by omega) with h1 | ⟨h1, h2⟩
      · exact .inl h1
      · right
        rw [Int.pow_succ]
        have p : (0 : Int) < 10 ^ w := Int.pow_pos (by decide)
        generalize (10 : Int) ^ w = P at *
        have e1 : acc * (P * 10) ≤ (acc * 10 + (c - 48)) * P := by
          have : acc * (P * 10) = (acc * 10) * P := by rw [Int.mul_comm P, ← Int.mul_assoc]
          rw [this]
          exact Int.mul_le_mul_of_nonneg_right (by omega) (by omega)
        have e2 : (acc * 10 + (c - 48) + 1) * P ≤ (acc + 1) * (P * 10) := by
          have : (acc + 1) * (P * 10) = ((acc + 1) * 10) * P := by rw [Int.mul_comm P, ← Int.mul_assoc]
          rw [this]
          exact Int.mul_le_mul_of_nonneg_right (by omega) (by omega)
        exact ⟨Int.le_trans e1 h1, Int.lt_of_lt_of_le h2 e2⟩
    · exact .inl rfl
theorem numL_bd (l : List Int) (i w : Nat) : -1 ≤ numL l i w ∧ numL l i w < 10 ^ w := by
  have p : (0 : Int) < 10 ^ w := Int.pow_pos (by decide)
  rcases numGo_bd w (l.drop i) 0 (by omega) with h | h
  · unfold numL; rw [h]; omega
  · unfold numL; simp at h; omega
/-- How many digits a list begins with. -/
def digs : List Int → Nat
  | [] => 0
  | c :: r => if dgB c then digs r + 1 else 0
theorem digs_le : ∀ l : List Int, digs l ≤ l.length
  | [] => Nat.le_refl _
  | c :: r => by
    rw [digs]
    split
    · have := digs_le r; simp; omega
    · simp
/-- The place behind the fraction, and whether the fraction has the form. -/
def fracV (l : List Int) : Nat × Bool := if isL l 19 46 46 then (20 + digs (l.drop 20), decide (0 < digs (l.drop 20))) else (19, true)
/-- The offset in seconds that stands from a place on to the end, and whether it has the form. -/
def offV (l : List Int) (i : Nat) : Int × Bool :=
  if isL l i 90 122 then (0, l.length == i + 1)
  else if isL l i 43 45 && decide (0 ≤ numL l (i + 1) 2 ∧ numL l (i + 1) 2 ≤ 23) && isL l (i + 3) 58 58 && decide (0 ≤ numL l (i + 4) 2 ∧ numL l (i + 4) 2 ≤ 59) && l.length == i + 6 then
    (if ch l i == 45 then -(numL l (i + 1) 2 * 3600 + numL l (i + 4) 2 * 60) else numL l (i + 1) 2 * 3600 + numL l (i + 4) 2 * 60, true)
  else (0, false)
def inTime (t : Int) : Bool := decide (-62135596800 ≤ t ∧ t ≤ 253402300799)
def sepsB (l : List Int) : Bool := isL l 4 45 45 && isL l 7 45 45 && isL l 10 84 116 && isL l 13 58 58 && isL l 16 58 58
def secL (l : List Int) : Int × Int := secV (numL l 0 4) (numL l 5 2) (numL l 8 2) (numL l 11 2) (numL l 14 2) (numL l 17 2)
/-- What Parse returns. -/
def parseL (l : List Int) : Int × Int :=
  if sepsB l && (secL l).2 == 0 && (fracV l).2 && (offV l (fracV l).1).2 then
    (if inTime ((secL l).1 - (offV l (fracV l).1).1) then ((secL l).1 - (offV l (fracV l).1).1, 0) else (0, 3))
  else (0, 20)

def d2 (n : Int) : List Int := [48 + n / 10, 48 + n % 10]
def d4 (n : Int) : List Int := [48 + n / 1000, 48 + n / 100 % 10, 48 + n / 10 % 10, 48 + n % 10]
/-- The form that Format writes. -/
def fmtL (y m d h mi s : Int) : List Int := d4 y ++ [45] ++ d2 m ++ [45] ++ d2 d ++ [84] ++ d2 h ++ [58] ++ d2 mi ++ [58] ++ d2 s ++ [90]
def timeI (y m d h mi s : Int) : Int := numI y m d * 86400 + (h * 3600 + mi * 60 + s)
def okClock (h mi s : Int) : Prop := 0 ≤ h ∧ h ≤ 23 ∧ 0 ≤ mi ∧ mi ≤ 59 ∧ 0 ≤ s ∧ s ≤ 59
theorem time_exists (t : Int) (h : inTime t = true) : ∃ y m d hh mi s, okDate y m d ∧ okClock hh mi s ∧ timeI y m d hh mi s = t := by
  unfold inTime at h
  rw [decide_eq_true_eq] at h
  obtain ⟨y, m, d, hv, hn⟩ := date_exists ((t + 62135596800) / 86400 - 719162) (by omega) (by omega)
  refine ⟨y, m, d, (t + 62135596800) % 86400 / 3600, (t + 62135596800) % 86400 / 60 % 60, (t + 62135596800) % 86400 % 60, hv, ?_, ?_⟩
  · unfold okClock; omega
  · unfold timeI; rw [hn]; omega
theorem time_bd {y m d h mi s : Int} (hv : okDate y m d) (hc : okClock h mi s) : inTime (timeI y m d h mi s) = true := by
  have := num_bd y m d hv
  unfold inTime timeI; unfold okClock at hc
  rw [decide_eq_true_eq]; omega
theorem secV_time {y m d h mi s : Int} (hv : okDate y m d) (hc : okClock h mi s) : secV y m d h mi s = (timeI y m d h mi s, 0) := by
  unfold okClock at hc
  unfold secV okTime
  rw [(okB_iff y m d).2 hv, decide_eq_true hc]
  rfl
theorem fmtL_length (y m d h mi s : Int) : (fmtL y m d h mi s).length = 20 := rfl
theorem fmtL_byte {y m d h mi s : Int} (hv : okDate y m d) (hc : okClock h mi s) : ∀ x ∈ fmtL y m d h mi s, 0 ≤ x ∧ x < 256 := by
  have hm := dim_bd y m
  obtain ⟨a, b, c, e, f, g⟩ := hv
  unfold okClock at hc
  intro x hx
  simp [fmtL, d4, d2] at hx
  omega
end Go.Proofs.YtdbpkggjnmapiaaDoor
