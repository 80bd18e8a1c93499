/- Plain facts of layer 4 for the law on years: a day, Feb, a year of two digits, 12:34 and a zone. -/
import Derived.Test.YtdbpkggjnmapiaaDoorRfcK
namespace Go.Proofs.YtdbpkggjnmapiaaDoor
open Go.RowKit

def feb : List UInt8 := [70, 101, 98]
def clk : List UInt8 := [49, 50, 58, 51, 52]
def fullY (yr : Int) : Int := if 50 ≤ yr then 1900 + yr else 2000 + yr
theorem full_bd (yr : Int) (h : 0 ≤ yr ∧ yr ≤ 99) : 1950 ≤ fullY yr ∧ fullY yr ≤ 2049 := by unfold fullY; split <;> omega
theorem full_date (yr d : Int) (h : 0 ≤ yr ∧ yr ≤ 99) (hd : 1 ≤ d ∧ d ≤ 28) : okDate (fullY yr) 2 d := by
  have := full_bd yr h
  have := dim_lo (fullY yr) 2 (by omega)
  exact ⟨by omega, by omega, by omega, by omega, by omega, by omega⟩
theorem noon : okClock 12 34 0 := by unfold okClock; omega
theorem full_time (yr d : Int) (h : 0 ≤ yr ∧ yr ≤ 99) (hd : 1 ≤ d ∧ d ≤ 28) : -700000000 ≤ timeI (fullY yr) 2 d 12 34 0 ∧ timeI (fullY yr) 2 d 12 34 0 ≤ 2600000000 := by
  have hb := full_bd yr h
  have b1 := bef_mono 1950 (fullY yr) hb.1
  have b2 := bef_mono (fullY yr) 2049 hb.2
  have e1 : befI 1950 = 711857 := by decide
  have e2 : befI 2049 = 748017 := by decide
  have c := cum_bd (fullY yr) 2 (by omega)
  unfold timeI numI
  omega
theorem feb_facts : okW feb = true ∧ findP monthNames feb = 1 ∧ okW clk = true ∧ clockW clk = [49, 50, 58, 51, 52, 58, 48, 48] ∧ clockB [49, 50, 58, 51, 52, 58, 48, 48] = true := by decide
theorem clk_nums : wholeZ (wz (([49, 50, 58, 51, 52, 58, 48, 48] : List UInt8).take 2)) 2 = 12 ∧ wholeZ (wz ((([49, 50, 58, 51, 52, 58, 48, 48] : List UInt8).drop 3).take 2)) 2 = 34 ∧ wholeZ (wz (([49, 50, 58, 51, 52, 58, 48, 48] : List UInt8).drop 6)) 2 = 0 := by decide
theorem parse_years (yr d zm : Int) (z : List UInt8) (h : 0 ≤ yr ∧ yr ≤ 99) (hd : 1 ≤ d ∧ d ≤ 28) (hz : zoneV (ofBytes z) = (zm, true)) (hzw : okW z = true) (hzm : -720 ≤ zm ∧ zm ≤ 720) :
    parse822 (ofBytes (joinS [nb (d2 d), feb, nb (d2 yr), clk, z])) = (timeI (fullY yr) 2 d 12 34 0 - zm * 60, 0) := by
  obtain ⟨f1, f2, f3, f4, f5⟩ := feb_facts
  obtain ⟨n1, n2, n3⟩ := clk_nums
  have hT := full_time yr d h hd
  have ho := okW_nb (d2 d) (by simp [d2]) fun x hx => by have := d2_in d (by omega) (by omega) x hx; omega
  have hy := okW_nb (d2 yr) (by simp [d2]) fun x hx => by have := d2_in yr (by omega) (by omega) x hx; omega
  have hdd : dayB (nb (d2 d)) = false := rfl
  rw [parse_join _ (by simp) (by simp only [List.all_cons, List.all_nil, ho, f1, hy, f3, hzw]; rfl), dropDay, hdd]
  show fiveV (nb (d2 d)) feb (nb (d2 yr)) clk z = _
  have hf : fiveSec (nb (d2 d)) feb (nb (d2 yr)) [49, 50, 58, 51, 52, 58, 48, 48] = (timeI (fullY yr) 2 d 12 34 0, 0) := by
    unfold fiveSec
    rw [n1, n2, n3, f2, year_2 yr (by omega) (by omega), day_2 d (by omega) (by omega)]
    exact secV_time (full_date yr d h hd) noon
  unfold fiveV
  rw [hz, f4, f5, hf]
  simp only [Bool.and_self, BEq.rfl, if_true]
  rw [show inTime (timeI (fullY yr) 2 d 12 34 0 - zm * 60) = true from decide_eq_true (by omega)]
  rfl
/-- The zones of the law: the name and the hours. -/
def yZone (k : Nat) : List UInt8 := #[[85, 84], [122], [69, 115, 116], [80, 68, 84], [43, 48, 48, 48, 48], [45, 48, 53, 48, 48]].getD k []
def yHour (k : Nat) : Int := #[0, 0, -5, -7, 0, -5].getD k 0
theorem zone_facts : ∀ k : Fin 6, zoneV (ofBytes (yZone k.val)) = (yHour k.val * 60, true) ∧ okW (yZone k.val) = true ∧ (-720 ≤ yHour k.val * 60 ∧ yHour k.val * 60 ≤ 720) ∧ (yZone k.val).length ≤ 5 := by decide
theorem years_string (yr d : Int) (z : List UInt8) : strOfNums (d2 d) ++ ⟨#[32, 70, 101, 98, 32]⟩ ++ strOfNums (d2 yr) ++ ⟨#[32, 49, 50, 58, 51, 52, 32]⟩ ++ ofBytes z = ofBytes (joinS [nb (d2 d), feb, nb (d2 yr), clk, z]) := by
  apply str_ext
  rw [nb_str, nb_str, ofBytes_list]
  show _ = nb (d2 d) ++ 32 :: (feb ++ 32 :: (nb (d2 yr) ++ 32 :: (clk ++ 32 :: z)))
  simp [ofBytes, feb, clk]
end Go.Proofs.YtdbpkggjnmapiaaDoor
