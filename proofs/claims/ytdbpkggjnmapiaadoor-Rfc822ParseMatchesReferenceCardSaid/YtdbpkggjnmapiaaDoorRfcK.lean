/- Plain facts of layer 4: words with single spaces between them are read as these words; what Format writes is read back. -/
import Derived.Test.YtdbpkggjnmapiaaDoorRfcH
import Derived.Test.YtdbpkggjnmapiaaDoorRfcJ
namespace Go.Proofs.YtdbpkggjnmapiaaDoor
open Go.RowKit

/-- A word: something, and no white space in it. -/
def okW (w : List UInt8) : Bool := !w.isEmpty && w.all fun c => !sp c
def joinS : List (List UInt8) → List UInt8
  | [] => []
  | [w] => w
  | w :: r => w ++ 32 :: joinS r
theorem joinS_cons (w v : List UInt8) (r : List (List UInt8)) : joinS (w :: v :: r) = w ++ 32 :: joinS (v :: r) := rfl
theorem col_run : ∀ (w : List UInt8) (st : Bool) (r : List UInt8), (w.all fun c => !sp c) = true → colGo st false (w ++ r) = w ++ colGo (st || !w.isEmpty) false r
  | [], st, r, _ => by simp
  | c :: w, st, r, h => by
    rw [List.all_cons, Bool.and_eq_true] at h
    have hc : ¬ sp c = true := by simpa using h.1
    rw [List.cons_append, colGo, if_neg hc, if_neg (by simp), col_run w true r h.2]
    simp
theorem col_join : ∀ (ws : List (List UInt8)) (st : Bool), (ws.all okW) = true → colGo st false (joinS ws) = joinS ws
  | [], st, _ => by rw [joinS, colGo]
  | [w], st, h => by
    simp only [List.all_cons, List.all_nil, Bool.and_true, okW, Bool.and_eq_true] at h
    have := col_run w st [] h.2
    rw [List.append_nil, colGo, List.append_nil] at this
    exact this
  | w :: v :: r, st, h => by
    rw [List.all_cons, Bool.and_eq_true] at h
    have hw := h.1
    unfold okW at hw
    rw [Bool.and_eq_true] at hw
    have hst : (st || !w.isEmpty) = true := by rw [hw.1]; simp
    rw [joinS_cons, col_run w st _ hw.2, hst]
    congr 1
    have h2 := h.2
    rw [List.all_cons, Bool.and_eq_true] at h2
    have hv := h2.1
    unfold okW at hv
    rw [Bool.and_eq_true] at hv
    obtain ⟨c, x, hcx⟩ : ∃ c x, joinS (v :: r) = c :: x ∧ sp c = false := by
      cases v with
      | nil => simp at hv
      | cons c v' =>
        have hc : sp c = false := by have := hv.2; rw [List.all_cons, Bool.and_eq_true] at this; simpa using this.1
        cases r with
        | nil => exact ⟨c, v', rfl, hc⟩
        | cons u r' => exact ⟨c, v' ++ 32 :: joinS (u :: r'), rfl, hc⟩
    have ih := col_join (v :: r) true h.2
    rw [hcx.1] at ih ⊢
    have hn : ¬ sp c = true := by rw [hcx.2]; decide
    rw [colGo, if_pos (by decide), colGo, if_neg hn, if_pos (by decide)]
    rw [colGo, if_neg hn, if_neg (by decide)] at ih
    rw [ih]
theorem words_run : ∀ (w cur r : List UInt8), (w.all fun c => !sp c) = true → wordsGo cur (w ++ r) = wordsGo (cur ++ w) r
  | [], cur, r, _ => by simp
  | c :: w, cur, r, h => by
    rw [List.all_cons, Bool.and_eq_true] at h
    have hc : c ≠ 32 := fun e => by rw [e] at h; exact absurd h.1 (by decide)
    rw [List.cons_append, wordsGo, if_neg hc, words_run w (cur ++ [c]) r h.2]
    simp
theorem words_join : ∀ (ws : List (List UInt8)), ws ≠ [] → (ws.all okW) = true → words (joinS ws) = ws
  | [], h, _ => absurd rfl h
  | [w], _, h => by
    simp only [List.all_cons, List.all_nil, Bool.and_true, okW, Bool.and_eq_true] at h
    have := words_run w [] [] h.2
    rw [List.append_nil, List.nil_append, wordsGo] at this
    exact this
  | w :: v :: r, _, h => by
    rw [List.all_cons, Bool.and_eq_true] at h
    have hw := h.1
    unfold okW at hw
    rw [Bool.and_eq_true] at hw
    have ih := words_join (v :: r) (by simp) h.2
    unfold words at ih ⊢
    rw [joinS_cons, words_run w [] _ hw.2, List.nil_append, wordsGo, if_pos rfl, ih]
theorem parse_join (ws : List (List UInt8)) (hne : ws ≠ []) (h : (ws.all okW) = true) : parse822 (ofBytes (joinS ws)) = wordsV (dropDay ws) := by
  unfold parse822
  rw [ofBytes_list]
  unfold collapse
  rw [col_join ws false h, words_join ws hne h]

/-- The bytes of numbers. -/
def nb (l : List Int) : List UInt8 := l.map fun n => UInt8.ofNat n.toNat
theorem nb_str (l : List Int) : strOfNums l = ofBytes (nb l) := by
  apply str_ext
  rw [strOfNums_data, ofBytes_list]; rfl
theorem nb_app (a b : List Int) : nb (a ++ b) = nb a ++ nb b := by simp [nb]
theorem nb_wz (l : List Int) (h : ∀ x ∈ l, 0 ≤ x ∧ x < 256) : wz (nb l) = l := by
  have := zs_str l h
  rw [nb_str, wz_zs] at this
  exact this
def nine (x : Int) : Prop := 0 ≤ x ∧ x ≤ 9
theorem sp_dig (x : Int) (h : 33 ≤ x ∧ x < 256) : (!sp (UInt8.ofNat x.toNat)) = true := by
  rw [Bool.not_eq_true']
  rw [← Bool.not_eq_true]
  intro hs
  have := (sp_iff _).1 hs
  rw [UInt8.toNat_ofNat'] at this
  omega
theorem okW_nb (l : List Int) (hne : l ≠ []) (h : ∀ x ∈ l, 33 ≤ x ∧ x < 256) : okW (nb l) = true := by
  unfold okW
  rw [Bool.and_eq_true]
  constructor
  · cases l with
    | nil => exact absurd rfl hne
    | cons _ _ => rfl
  · unfold nb
    rw [List.all_map, List.all_eq_true]
    intro x hx
    exact sp_dig x (h x hx)
theorem d2_in (n : Int) (h0 : 0 ≤ n) (h1 : n ≤ 99) : ∀ x ∈ d2 n, 48 ≤ x ∧ x ≤ 57 := by
  intro x hx
  simp [d2] at hx
  omega
theorem d4_in (n : Int) (h0 : 0 ≤ n) (h1 : n ≤ 9999) : ∀ x ∈ d4 n, 48 ≤ x ∧ x ≤ 57 := by
  intro x hx
  simp [d4] at hx
  omega
def clockL (h mi s : Int) : List Int := d2 h ++ [58] ++ d2 mi ++ [58] ++ d2 s
theorem clock_in (h mi s : Int) (hc : okClock h mi s) : ∀ x ∈ clockL h mi s, 48 ≤ x ∧ x ≤ 58 := by
  unfold okClock at hc
  intro x hx
  simp [clockL, d2] at hx
  omega
def dayN (wd : Int) : List UInt8 := nb (three daysS wd)
def monN (k : Int) : List UInt8 := nb (three monthsS k)
def gmt : List UInt8 := [71, 77, 84]
/-- The words that Format writes. -/
def fiveW (y m d h mi s : Int) : List (List UInt8) := [nb (d2 d), monN (m - 1), nb (d4 y), nb (clockL h mi s), gmt]
theorem fmt_join (y m d h mi s : Int) : nb (fmt822 y m d h mi s) = joinS ((dayN ((numI y m d + 719163) % 7) ++ [44]) :: fiveW y m d h mi s) := by
  unfold fmt822
  simp only [nb_app]
  show _ = (dayN ((numI y m d + 719163) % 7) ++ [44]) ++ 32 :: (nb (d2 d) ++ 32 :: (monN (m - 1) ++ 32 :: (nb (d4 y) ++ 32 :: (nb (clockL h mi s) ++ 32 :: gmt))))
  simp only [clockL, nb_app]
  simp [nb, dayN, monN, gmt, d2, d4]
theorem day_facts : ∀ k : Fin 7, okW (dayN k.val ++ [44]) = true ∧ dayB (dayN k.val ++ [44]) = true ∧ (dayN k.val).length = 3 ∧ okW (dayN k.val) = true := by decide
theorem mon_facts : ∀ k : Fin 12, okW (monN k.val) = true ∧ findP monthNames (monN k.val) = k.val ∧ (monN k.val).length = 3 := by decide
theorem mon_at (m : Int) (h : 1 ≤ m ∧ m ≤ 12) : okW (monN (m - 1)) = true ∧ findP monthNames (monN (m - 1)) = m - 1 ∧ (monN (m - 1)).length = 3 := by
  have := mon_facts ⟨(m - 1).toNat, by omega⟩
  simp only at this
  rwa [show (((m - 1).toNat : Nat) : Int) = m - 1 by omega] at this
theorem day_at (k : Int) (h : 0 ≤ k ∧ k ≤ 6) : okW (dayN k ++ [44]) = true ∧ dayB (dayN k ++ [44]) = true ∧ (dayN k).length = 3 ∧ okW (dayN k) = true := by
  have := day_facts ⟨k.toNat, by omega⟩
  simp only at this
  rwa [show ((k.toNat : Nat) : Int) = k by omega] at this
theorem whole_2 (n : Int) (h0 : 0 ≤ n) (h1 : n ≤ 99) : wholeZ (d2 n) 2 = n := by
  unfold wholeZ
  rw [if_pos (show (d2 n).length = 2 from rfl)]
  exact numGo_d2 n [] h0 h1
theorem whole_4 (n : Int) (h0 : 0 ≤ n) (h1 : n ≤ 9999) : wholeZ (d4 n) 4 = n := by
  unfold wholeZ
  rw [if_pos (show (d4 n).length = 4 from rfl)]
  exact numGo_d4 n [] h0 h1
theorem wz_d2 (n : Int) (h0 : 0 ≤ n) (h1 : n ≤ 99) : wz (nb (d2 n)) = d2 n := nb_wz _ fun x hx => by have := d2_in n h0 h1 x hx; omega
theorem wz_d4 (n : Int) (h0 : 0 ≤ n) (h1 : n ≤ 9999) : wz (nb (d4 n)) = d4 n := nb_wz _ fun x hx => by have := d4_in n h0 h1 x hx; omega
theorem year_4 (n : Int) (h0 : 0 ≤ n) (h1 : n ≤ 9999) : yearZ (wz (nb (d4 n))) = n := by
  have h2 : wholeZ (d4 n) 2 = -1 := rfl
  rw [wz_d4 n h0 h1]
  unfold yearZ
  rw [h2, if_neg (by decide), if_neg (by decide), whole_4 n h0 h1]
theorem year_2 (n : Int) (h0 : 0 ≤ n) (h1 : n ≤ 99) : yearZ (wz (nb (d2 n))) = if 50 ≤ n then 1900 + n else 2000 + n := by
  rw [wz_d2 n h0 h1]
  unfold yearZ
  rw [whole_2 n h0 h1, if_pos h0]
theorem day_2 (n : Int) (h0 : 0 ≤ n) (h1 : n ≤ 99) : dayZ (nb (d2 n)) = n := by
  unfold dayZ
  rw [wz_d2 n h0 h1]
  have h2 : wholeZ (d2 n) 1 = -1 := rfl
  rw [h2, if_pos (by decide), whole_2 n h0 h1]
theorem clock_parts (h mi s : Int) : clockB (nb (clockL h mi s)) = true ∧ clockW (nb (clockL h mi s)) = nb (clockL h mi s) ∧ (nb (clockL h mi s)).take 2 = nb (d2 h) ∧ ((nb (clockL h mi s)).drop 3).take 2 = nb (d2 mi) ∧ (nb (clockL h mi s)).drop 6 = nb (d2 s) := ⟨rfl, rfl, rfl, rfl, rfl⟩
theorem gmt_zone : zoneV (ofBytes gmt) = (0, true) := by decide
theorem five_ok (y m d h mi s : Int) (hv : okDate y m d) (hc : okClock h mi s) : fiveV (nb (d2 d)) (monN (m - 1)) (nb (d4 y)) (nb (clockL h mi s)) gmt = (timeI y m d h mi s, 0) := by
  have hb := time_bd hv hc
  have hsv := secV_time hv hc
  have hm31 := dim_bd y m
  obtain ⟨v1, v2, v3, v4, v5, v6⟩ := hv
  obtain ⟨t1, t2, t3, t4, t5, t6⟩ := hc
  obtain ⟨k1, k2, k3, k4, k5⟩ := clock_parts h mi s
  have hf : fiveSec (nb (d2 d)) (monN (m - 1)) (nb (d4 y)) (nb (clockL h mi s)) = (timeI y m d h mi s, 0) := by
    unfold fiveSec
    rw [k3, k4, k5, year_4 y (by omega) (by omega), (mon_at m ⟨v3, v4⟩).2.1, day_2 d (by omega) (by omega), wz_d2 h (by omega) (by omega), wz_d2 mi (by omega) (by omega), wz_d2 s (by omega) (by omega), whole_2 h (by omega) (by omega), whole_2 mi (by omega) (by omega), whole_2 s (by omega) (by omega), show m - 1 + 1 = m by omega]
    exact hsv
  unfold fiveV
  rw [gmt_zone, k2, k1, hf]
  simp only [Bool.and_self, BEq.rfl, if_true, Int.zero_mul, Int.sub_zero]
  rw [hb]; rfl
theorem five_words (y m d h mi s : Int) (hv : okDate y m d) (hc : okClock h mi s) : (fiveW y m d h mi s).all okW = true := by
  have hm31 := dim_bd y m
  have hci := clock_in h mi s hc
  obtain ⟨v1, v2, v3, v4, v5, v6⟩ := hv
  unfold fiveW
  simp only [List.all_cons, List.all_nil, Bool.and_true, Bool.and_eq_true]
  exact ⟨okW_nb _ (by simp [d2]) fun x hx => by have := d2_in d (by omega) (by omega) x hx; omega, (mon_at m ⟨v3, v4⟩).1, okW_nb _ (by simp [d4]) fun x hx => by have := d4_in y (by omega) (by omega) x hx; omega, okW_nb _ (by simp [clockL, d2]) fun x hx => by have := hci x hx; omega, by decide⟩
theorem day_no (y m d h mi s : Int) : dropDay (fiveW y m d h mi s) = fiveW y m d h mi s := rfl
/-- A name of a day and a comma ahead of what Format writes behind its own. -/
theorem parse_named (k y m d h mi s : Int) (hk : 0 ≤ k ∧ k ≤ 6) (hv : okDate y m d) (hc : okClock h mi s) : parse822 (ofBytes (joinS ((dayN k ++ [44]) :: fiveW y m d h mi s))) = (timeI y m d h mi s, 0) := by
  obtain ⟨h1, h2, _, _⟩ := day_at k hk
  rw [parse_join _ (by simp) (by rw [List.all_cons, h1, five_words y m d h mi s hv hc]; rfl), dropDay, if_pos h2]
  exact five_ok y m d h mi s hv hc
theorem parse822_fmt (y m d h mi s : Int) (hv : okDate y m d) (hc : okClock h mi s) : parse822 (strOfNums (fmt822 y m d h mi s)) = (timeI y m d h mi s, 0) := by
  rw [nb_str, fmt_join]
  exact parse_named _ y m d h mi s (by omega) hv hc
theorem parse_bare (y m d h mi s : Int) (hv : okDate y m d) (hc : okClock h mi s) : parse822 (ofBytes (joinS (fiveW y m d h mi s))) = (timeI y m d h mi s, 0) := by
  rw [parse_join _ (by simp [fiveW]) (five_words y m d h mi s hv hc), day_no]
  exact five_ok y m d h mi s hv hc
theorem parse_uncomma (k y m d h mi s : Int) (hk : 0 ≤ k ∧ k ≤ 6) (hv : okDate y m d) (hc : okClock h mi s) : parse822 (ofBytes (joinS (dayN k :: fiveW y m d h mi s))) = (0, 20) := by
  obtain ⟨_, _, h3, h4⟩ := day_at k hk
  have hd : dayB (dayN k) = false := by unfold dayB; rw [h3]; rfl
  rw [parse_join _ (by simp) (by rw [List.all_cons, h4, five_words y m d h mi s hv hc]; rfl), dropDay, hd]
  rfl
theorem fmt822_length (y m d h mi s : Int) (hm : 1 ≤ m ∧ m ≤ 12) : (fmt822 y m d h mi s).length = 29 := by
  have h1 := congrArg List.length (fmt_join y m d h mi s)
  have a := (day_at ((numI y m d + 719163) % 7) (by omega)).2.2.1
  have b := (mon_at m hm).2.2
  rw [show (nb (fmt822 y m d h mi s)).length = (fmt822 y m d h mi s).length by simp [nb]] at h1
  rw [h1]
  show ((dayN ((numI y m d + 719163) % 7) ++ [44]) ++ 32 :: (nb (d2 d) ++ 32 :: (monN (m - 1) ++ 32 :: (nb (d4 y) ++ 32 :: (nb (clockL h mi s) ++ 32 :: gmt))))).length = 29
  simp [a, b, nb, clockL, d2, d4, gmt]
theorem join_all (p : UInt8 → Bool) (h32 : p 32 = true) : ∀ ws : List (List UInt8), (ws.all fun w => w.all p) = true → (joinS ws).all p = true
  | [], _ => rfl
  | [w], h => by
    rw [List.all_cons, List.all_nil, Bool.and_true] at h
    exact h
  | w :: v :: r, h => by
    rw [List.all_cons, Bool.and_eq_true] at h
    rw [joinS_cons, List.all_append, List.all_cons, h.1, h32, join_all p h32 (v :: r) h.2]; rfl
def asc (c : UInt8) : Bool := decide (c.toNat < 128)
theorem nb_asc (l : List Int) (h : ∀ x ∈ l, 0 ≤ x ∧ x < 128) : (nb l).all asc = true := by
  unfold nb
  rw [List.all_map, List.all_eq_true]
  intro x hx
  have := h x hx
  show decide ((UInt8.ofNat x.toNat).toNat < 128) = true
  rw [UInt8.toNat_ofNat', decide_eq_true_eq]; omega
theorem day_asc : ∀ k : Fin 7, (dayN k.val ++ [44]).all asc = true := by decide
theorem mon_asc : ∀ k : Fin 12, (monN k.val).all asc = true := by decide
theorem fmt_asc (y m d h mi s : Int) (hv : okDate y m d) (hc : okClock h mi s) : (nb (fmt822 y m d h mi s)).all asc = true := by
  have hm31 := dim_bd y m
  have hci := clock_in h mi s hc
  obtain ⟨v1, v2, v3, v4, v5, v6⟩ := hv
  have a1 := day_asc ⟨((numI y m d + 719163) % 7).toNat, by omega⟩
  have a2 := mon_asc ⟨(m - 1).toNat, by omega⟩
  simp only at a1 a2
  rw [show ((((numI y m d + 719163) % 7).toNat : Nat) : Int) = (numI y m d + 719163) % 7 by omega] at a1
  rw [show (((m - 1).toNat : Nat) : Int) = m - 1 by omega] at a2
  rw [fmt_join]
  refine join_all asc rfl _ ?_
  rw [List.all_cons, a1]
  unfold fiveW
  simp only [List.all_cons, List.all_nil, Bool.and_true, Bool.true_and, Bool.and_eq_true]
  exact ⟨nb_asc _ fun x hx => by have := d2_in d (by omega) (by omega) x hx; omega, a2, nb_asc _ fun x hx => by have := d4_in y (by omega) (by omega) x hx; omega, nb_asc _ fun x hx => by have := hci x hx; omega, by decide⟩
end Go.Proofs.YtdbpkggjnmapiaaDoor
