/- Plain functions of layer 4: the words of a date and time read. -/
import Derived.Test.YtdbpkggjnmapiaaDoorTextG
import Derived.Test.YtdbpkggjnmapiaaDoorRfcC
import Derived.Test.YtdbpkggjnmapiaaDoorRfcE
namespace Go.Proofs.YtdbpkggjnmapiaaDoor
open Go.RowKit

theorem rcolGo_length : ∀ (l : List UInt8) (st pv : Bool), (colGo st pv l).length ≤ l.length + (if st && pv then 1 else 0)
  | [], _, _ => by simp [colGo]
  | c :: r, st, pv => by
    have i1 := rcolGo_length r st true
    have i2 := rcolGo_length r true false
    rw [colGo]
    simp only [Bool.and_true, Bool.and_false, Bool.false_eq_true, if_false, Nat.add_zero] at i1 i2
    split
    · rw [List.length_cons]; cases st <;> cases pv <;> simp at i1 ⊢ <;> omega
    · split
      · simp only [List.length_cons]; omega
      · simp only [List.length_cons]; omega
theorem rcol_length (l : List UInt8) : (collapse l).length ≤ l.length := by
  have := rcolGo_length l false false
  unfold collapse
  simpa using this
theorem wordsGo_ne (cur l : List UInt8) : ∃ a r, wordsGo cur l = a :: r := by
  induction l generalizing cur with
  | nil => exact ⟨_, _, rfl⟩
  | cons c r ih =>
    rw [wordsGo]
    split
    · exact ⟨_, _, rfl⟩
    · exact ih _
theorem wordsGo_size (n : Nat) : ∀ (l cur : List UInt8), cur.length + l.length ≤ n → ∀ x ∈ wordsGo cur l, x.length ≤ n
  | [], cur, h, x, hx => by rw [wordsGo, List.mem_singleton] at hx; rw [hx]; simpa using h
  | c :: r, cur, h, x, hx => by
    rw [List.length_cons] at h
    rw [wordsGo] at hx
    split at hx
    · rcases List.mem_cons.1 hx with rfl | hx
      · omega
      · exact wordsGo_size n r [] (by simp; omega) x hx
    · exact wordsGo_size n r (cur ++ [c]) (by simp; omega) x hx
/-- The numbers of a word. -/
def wz (w : List UInt8) : List Int := w.map fun c => (c.toNat : Int)
theorem wz_zs (w : List UInt8) : zs (ofBytes w) = wz w := by unfold zs wz; rw [ofBytes_list]
def dayNames : List UInt8 := [83, 117, 110, 77, 111, 110, 84, 117, 101, 87, 101, 100, 84, 104, 117, 70, 114, 105, 83, 97, 116]
def monthNames : List UInt8 := [74, 97, 110, 70, 101, 98, 77, 97, 114, 65, 112, 114, 77, 97, 121, 74, 117, 110, 74, 117, 108, 65, 117, 103, 83, 101, 112, 79, 99, 116, 78, 111, 118, 68, 101, 99]
/-- Whether a word is a day of the week and a comma. -/
def dayB (w : List UInt8) : Bool := w.length == 4 && (w.getD 3 0).toNat == 44 && decide (0 ≤ findP dayNames (w.take 3))
def dropDay : List (List UInt8) → List (List UInt8)
  | [] => []
  | w :: r => if dayB w then r else w :: r
def clockW (w : List UInt8) : List UInt8 := if w.length = 5 then w ++ [58, 48, 48] else w
def clockB (c : List UInt8) : Bool := c.length == 8 && (c.getD 2 0).toNat == 58 && (c.getD 5 0).toNat == 58
def dayZ (w : List UInt8) : Int := if wholeZ (wz w) 1 < 0 then wholeZ (wz w) 2 else wholeZ (wz w) 1
def fiveSec (w0 w1 w2 c : List UInt8) : Int × Int := secV (yearZ (wz w2)) (findP monthNames w1 + 1) (dayZ w0) (wholeZ (wz (c.take 2)) 2) (wholeZ (wz ((c.drop 3).take 2)) 2) (wholeZ (wz (c.drop 6)) 2)
def fiveV (w0 w1 w2 w3 w4 : List UInt8) : Int × Int :=
  if (zoneV (ofBytes w4)).2 && clockB (clockW w3) && (fiveSec w0 w1 w2 (clockW w3)).2 == 0 then
    (if inTime ((fiveSec w0 w1 w2 (clockW w3)).1 - (zoneV (ofBytes w4)).1 * 60) then ((fiveSec w0 w1 w2 (clockW w3)).1 - (zoneV (ofBytes w4)).1 * 60, 0) else (0, 3))
  else (0, 20)
def wordsV : List (List UInt8) → Int × Int
  | [w0, w1, w2, w3, w4] => fiveV w0 w1 w2 w3 w4
  | _ => (0, 20)
/-- What Parse of layer 4 returns. -/
def parse822 (s : ByteArray) : Int × Int := wordsV (dropDay (words (collapse s.data.toList)))
theorem zoneF_bd (l : List UInt8) : ∀ f k z, zoneF l f k = some z → -480 ≤ z ∧ z ≤ 0
  | 0, _, _, h => by cases h
  | f + 1, k, z, h => by
    rw [zoneF] at h
    split at h
    · have := zoneH_bd k
      simp only [Option.some.injEq] at h; omega
    · exact zoneF_bd l f (k + 1) z h
theorem zoneV_bd (s : ByteArray) : -1439 ≤ (zoneV s).1 ∧ (zoneV s).1 ≤ 1439 := by
  unfold zoneV
  split
  · rename_i z h
    have := zoneF_bd _ _ _ _ h
    simp only; omega
  · exact zoneNum_bd _
end Go.Proofs.YtdbpkggjnmapiaaDoor
