/- Plain facts of layer 4 for the landed code: words cut six times at the most; lower case; the parts of a date, put together as RFC 3339 has them, are read alike. -/
import Derived.Test.YtdbpkggjnmapiaaDoorRfcJ
import Derived.Test.YtdbpkggjnmapiaaDoorDatJ
import Derived.Lib.Split
namespace Go.Proofs.YtdbpkggjnmapiaaDoor
open Go.RowKit

/-- A list cut at its first spaces, so many at the most. -/
def wordsN : Nat → List UInt8 → List UInt8 → List (List UInt8)
  | 0, cur, l => [cur ++ l]
  | _ + 1, cur, [] => [cur]
  | k + 1, cur, c :: r => if c = 32 then cur :: wordsN k [] r else wordsN (k + 1) (cur ++ [c]) r
theorem ix_cons (c : UInt8) (s : List UInt8) (h : c ≠ 32) : Lib.index (c :: s) [32] = if Lib.index s [32] == -1 then -1 else Lib.index s [32] + 1 := by
  rw [Lib.index, if_neg]
  simp [List.isPrefixOf, Ne.symm h]
theorem ix_at : ∀ (cur r : List UInt8), (∀ x ∈ cur, x ≠ 32) → Lib.index (cur ++ 32 :: r) [32] = cur.length
  | [], r, _ => by simp [Lib.index, List.isPrefixOf]
  | c :: t, r, h => by
    rw [List.cons_append, ix_cons _ _ (h c List.mem_cons_self), ix_at t r fun x hx => h x (List.mem_cons_of_mem _ hx), if_neg (by simp)]
    simp
theorem ix_no : ∀ cur : List UInt8, (∀ x ∈ cur, x ≠ 32) → Lib.index cur [32] = -1
  | [], _ => rfl
  | c :: t, h => by
    rw [ix_cons _ _ (h c List.mem_cons_self), ix_no t fun x hx => h x (List.mem_cons_of_mem _ hx)]; rfl
theorem splitK_words : ∀ (l cur : List UInt8) (k : Nat), (∀ x ∈ cur, x ≠ 32) → Lib.splitK [32] 0 k (cur ++ l) = wordsN k cur l
  | l, cur, 0, _ => by cases l <;> rfl
  | [], cur, k + 1, h => by
    rw [List.append_nil, Lib.splitK, ix_no cur h]; rfl
  | c :: r, cur, k + 1, h => by
    by_cases hc : c = 32
    · subst hc
      rw [Lib.splitK, ix_at cur r h, if_neg (by simp), wordsN, if_pos rfl, ← splitK_words r [] k (by simp)]
      simp
    · rw [wordsN, if_neg hc, ← splitK_words r (cur ++ [c]) (k + 1) (by
        intro x hx
        rcases List.mem_append.1 hx with h1 | h1
        · exact h x h1
        · rw [List.mem_singleton.1 h1]; exact hc)]
      simp
theorem wordsGo_pos (cur l : List UInt8) : 0 < (wordsGo cur l).length := by
  obtain ⟨a, r, h⟩ := wordsGo_ne cur l
  rw [h]; simp
theorem wordsN_few : ∀ (l cur : List UInt8) (k : Nat), (wordsGo cur l).length ≤ k + 1 → wordsN k cur l = wordsGo cur l
  | [], cur, 0, _ => by rw [wordsN, wordsGo, List.append_nil]
  | [], cur, k + 1, _ => by rw [wordsN, wordsGo]
  | c :: r, cur, 0, h => by
    rw [wordsGo] at h ⊢
    by_cases hc : c = 32
    · rw [if_pos hc] at h
      have := wordsGo_pos [] r
      rw [List.length_cons] at h
      omega
    · rw [if_neg hc] at h ⊢
      rw [← wordsN_few r (cur ++ [c]) 0 h, wordsN, wordsN]; simp
  | c :: r, cur, k + 1, h => by
    rw [wordsGo] at h ⊢
    rw [wordsN]
    by_cases hc : c = 32
    · rw [if_pos hc] at h
      rw [if_pos hc, if_pos hc, wordsN_few r [] k (by rw [List.length_cons] at h; omega)]
    · rw [if_neg hc] at h
      rw [if_neg hc, if_neg hc, wordsN_few r (cur ++ [c]) (k + 1) h]
theorem wordsN_many : ∀ (l cur : List UInt8) (k : Nat), k + 1 ≤ (wordsGo cur l).length → (wordsN k cur l).length = k + 1 ∧ (0 < k → (wordsN k cur l).head? = (wordsGo cur l).head?)
  | l, cur, 0, _ => by cases l <;> exact ⟨rfl, fun h => absurd h (by omega)⟩
  | [], cur, k + 1, h => by rw [wordsGo] at h; simp at h
  | c :: r, cur, k + 1, h => by
    rw [wordsGo] at h ⊢
    rw [wordsN]
    by_cases hc : c = 32
    · rw [if_pos hc] at h
      rw [if_pos hc, if_pos hc]
      have := wordsN_many r [] k (by rw [List.length_cons] at h; omega)
      exact ⟨by rw [List.length_cons, this.1], fun _ => rfl⟩
    · rw [if_neg hc] at h
      rw [if_neg hc, if_neg hc]
      exact wordsN_many r (cur ++ [c]) (k + 1) h
theorem wordsN_size (n : Nat) : ∀ (l cur : List UInt8) (k : Nat), cur.length + l.length ≤ n → ∀ x ∈ wordsN k cur l, x.length ≤ n
  | l, cur, 0, h, x, hx => by
    have : x = cur ++ l := by cases l <;> exact List.mem_singleton.1 hx
    rw [this, List.length_append]; exact h
  | [], cur, k + 1, h, x, hx => by
    rw [wordsN] at hx
    rw [List.mem_singleton.1 hx]
    simp at h; exact h
  | c :: r, cur, k + 1, h, x, hx => by
    rw [wordsN] at hx
    rw [List.length_cons] at h
    split at hx
    · rcases List.mem_cons.1 hx with rfl | hx
      · omega
      · exact wordsN_size n r [] k (by simp; omega) x hx
    · exact wordsN_size n r (cur ++ [c]) (k + 1) (by simp; omega) x hx

/-! ### lower case -/
theorem low_low (c : UInt8) : low8 (low8 c) = low8 c := by
  by_cases h : 65 ≤ c.toNat ∧ c.toNat ≤ 90
  · exact low8_no _ (by rw [low8_yes c h]; omega)
  · rw [low8_no c h, low8_no c h]
theorem low_fn : CaseFn low8 := caseFn_of_low low_low
def lowL (s : ByteArray) : List UInt8 := (collapse s.data.toList).map low8
theorem parse_low (s : ByteArray) : parse822 s = wordsV (dropDay (words (lowL s))) := by
  have h := low_fn.parse s.data.toList
  rw [ofBytes_data] at h
  rw [← h]
  unfold parse822 lowL
  rw [ofBytes_list]
  unfold collapse
  have hc := low_fn.col s.data.toList false false
  rw [hc]
def isLow (w : List UInt8) : Prop := w.map low8 = w
theorem isLow_all {w : List UInt8} (h : ∀ c ∈ w, low8 c = c) : isLow w := by
  unfold isLow
  conv => rhs; rw [← List.map_id w]
  exact List.map_congr_left h
theorem words_in (p : UInt8 → Prop) : ∀ (l cur : List UInt8), (∀ c ∈ cur, p c) → (∀ c ∈ l, p c) → ∀ w ∈ wordsGo cur l, ∀ c ∈ w, p c
  | [], cur, h1, _, w, hw => by
    rw [wordsGo] at hw
    rw [List.mem_singleton.1 hw]; exact h1
  | c :: r, cur, h1, h2, w, hw => by
    rw [wordsGo] at hw
    split at hw
    · rcases List.mem_cons.1 hw with rfl | hw
      · exact h1
      · exact words_in p r [] (by simp) (fun x hx => h2 x (List.mem_cons_of_mem _ hx)) w hw
    · refine words_in p r (cur ++ [c]) (fun x hx => ?_) (fun x hx => h2 x (List.mem_cons_of_mem _ hx)) w hw
      rcases List.mem_append.1 hx with h | h
      · exact h1 x h
      · rw [List.mem_singleton.1 h]; exact h2 c List.mem_cons_self
theorem words_low (s : ByteArray) : ∀ w ∈ words (lowL s), isLow w := by
  intro w hw
  refine isLow_all (words_in (fun c => low8 c = c) (lowL s) [] (by simp) (fun c hc => ?_) w hw)
  unfold lowL at hc
  obtain ⟨d, _, rfl⟩ := List.mem_map.1 hc
  exact low_low d

/-! ### names -/
theorem findF_some (l n : List UInt8) : ∀ f i, 0 ≤ findF l n f i → ∃ j, i ≤ j ∧ (j - i) % 3 = 0 ∧ j + 3 ≤ l.length ∧ ((l.drop j).take 3).map low8 = n.map low8 ∧ findF l n f i = ((j / 3 : Nat) : Int)
  | 0, i, h => by rw [findF] at h; omega
  | f + 1, i, h => by
    rw [findF] at h ⊢
    split at h
    · rename_i h1
      rw [if_pos h1]
      split at h
      · rename_i h2
        rw [if_pos h2]
        exact ⟨i, Nat.le_refl _, by omega, h1, by simpa using h2, rfl⟩
      · rename_i h2
        rw [if_neg h2]
        obtain ⟨j, a, b, c, d, e⟩ := findF_some l n f (i + 3) h
        exact ⟨j, by omega, by omega, c, d, e⟩
    · omega
theorem findP_bd (l n : List UInt8) : -1 ≤ findP l n := (findF_bd l n _ _).1
theorem findP_some {l n : List UInt8} (h : 0 ≤ findP l n) (hn : isLow n) : ∃ k, k * 3 + 3 ≤ l.length ∧ ((l.drop (k * 3)).take 3).map low8 = n := by
  obtain ⟨j, _, b, c, d, _⟩ := findF_some l n _ _ h
  refine ⟨j / 3, by omega, ?_⟩
  rw [show j / 3 * 3 = j by omega, d]; exact hn
def dayL (k : Nat) : List UInt8 := ((dayNames.drop (k * 3)).take 3).map low8
def monL (k : Nat) : List UInt8 := ((monthNames.drop (k * 3)).take 3).map low8
theorem mon_k : ∀ k : Fin 12, findP monthNames (monL k.val) = k.val := by decide
theorem day_k : ∀ k : Fin 7, dayB (dayL k.val ++ [44]) = true := by decide
theorem mon_no {w : List UInt8} (hw : isLow w) (h : ∀ k, k < 12 → w ≠ monL k) : findP monthNames w = -1 := by
  have hb := findP_bd monthNames w
  rcases Int.lt_or_le (findP monthNames w) 0 with h0 | h0
  · omega
  · obtain ⟨k, a, b⟩ := findP_some h0 hw
    have : monthNames.length = 36 := rfl
    exact absurd b.symm (h k (by omega))
theorem wk_no {w : List UInt8} (hw : isLow w) (h : ∀ k, k < 7 → w ≠ dayL k ++ [44]) : dayB w = false := by
  rw [← Bool.not_eq_true]
  intro hd
  unfold dayB at hd
  simp only [Bool.and_eq_true, beq_iff_eq, decide_eq_true_eq] at hd
  obtain ⟨⟨h4, h44⟩, hf⟩ := hd
  match w, h4 with
  | [a, b, c, d], _ =>
    have hd : d = 44 := UInt8.toNat_inj.1 h44
    have hl : isLow [a, b, c] := by
      unfold isLow at hw ⊢
      simp only [List.map_cons, List.map_nil, List.cons.injEq] at hw
      simp only [List.map_cons, List.map_nil, hw.1, hw.2.1, hw.2.2.1]
    obtain ⟨k, a1, a2⟩ := findP_some hf hl
    have : dayNames.length = 21 := rfl
    refine h k (by omega) ?_
    show [a, b, c, d] = ((dayNames.drop (k * 3)).take 3).map low8 ++ [44]
    rw [a2, hd]; rfl

/-! ### the zones -/
def zoneT (k : Nat) : List UInt8 := #[[90], [90], [90], [90], [45, 48, 53, 58, 48, 48], [45, 48, 52, 58, 48, 48], [45, 48, 54, 58, 48, 48], [45, 48, 53, 58, 48, 48], [45, 48, 55, 58, 48, 48], [45, 48, 54, 58, 48, 48], [45, 48, 56, 58, 48, 48], [45, 48, 55, 58, 48, 48]].getD k []
/-- What the first so many zones give. -/
def zoneM : Nat → List UInt8 → List UInt8
  | 0, _ => []
  | k + 1, w => if w = zoneN k then zoneT k else zoneM k w
theorem zoneM_no (w : List UInt8) : ∀ n, (∀ k, k < n → w ≠ zoneN k) → zoneM n w = []
  | 0, _ => rfl
  | n + 1, h => by rw [zoneM, if_neg (h n (by omega)), zoneM_no w n fun k hk => h k (by omega)]
theorem zoneF_no (w : List UInt8) : ∀ f k, (∀ j, j < k + f → w ≠ zoneN j) → zoneF w f k = none
  | 0, _, _ => rfl
  | f + 1, k, h => by
    have : ¬ (w == zoneN k) = true := by simpa using h k (by omega)
    rw [zoneF, if_neg this, zoneF_no w f (k + 1) fun j hj => h j (by omega)]
def signed (w : List UInt8) : Prop := w.length = 5 ∧ (w.getD 0 0 = 43 ∨ w.getD 0 0 = 45)
instance (w : List UInt8) : Decidable (signed w) := by unfold signed; infer_instance

/-! ### the parts, as RFC 3339 has them -/
def nS (l : List Int) : List UInt8 := l.map fun n => UInt8.ofNat n.toNat
def yrS (w : List UInt8) : List UInt8 := if w.length = 4 then w else if w.length ≠ 2 then [] else if ltZ (wz w) [53, 48] then 50 :: 48 :: w else 49 :: 57 :: w
def dyS (w : List UInt8) : List UInt8 := if w.length = 1 then 48 :: w else if w.length = 2 then w else []
def moS (w : List UInt8) : List UInt8 := if 0 ≤ findP monthNames w then nS (d2 (findP monthNames w + 1)) else []
def clS (w : List UInt8) : List UInt8 := if w.length = 5 then w ++ [58, 48, 48] else if w.length = 8 then w else []
def zoS (w : List UInt8) : List UInt8 := if signed w then w.take 3 ++ 58 :: w.drop 3 else zoneM 12 w
def builtS (w0 w1 w2 w3 w4 : List UInt8) : List UInt8 := yrS w2 ++ 45 :: (moS w1 ++ 45 :: (dyS w0 ++ 84 :: (clS w3 ++ zoS w4)))
end Go.Proofs.YtdbpkggjnmapiaaDoor

namespace Go.Proofs.YtdbpkggjnmapiaaDoor
open Go.RowKit

theorem wz_cons (c : UInt8) (l : List UInt8) : wz (c :: l) = (c.toNat : Int) :: wz l := rfl
theorem wz_app (a b : List UInt8) : wz (a ++ b) = wz a ++ wz b := by simp [wz]
theorem wz_len (a : List UInt8) : (wz a).length = a.length := by simp [wz]
theorem numGo_app : ∀ (k : Nat) (a r : List Int) (acc : Int), a.length = k → numGo k (a ++ r) acc = numGo k a acc
  | 0, _, _, _, _ => by rw [numGo, numGo]
  | k + 1, [], _, _, h => by simp at h
  | k + 1, c :: t, r, acc, h => by
    rw [List.cons_append, numGo, numGo]
    split
    · exact numGo_app k t r _ (by simpa using h)
    · rfl
theorem whole_at {l : List Int} {k : Nat} (h : l.length = k) : wholeZ l k = numGo k l 0 := by
  unfold wholeZ numL; rw [if_pos h, List.drop_zero]
theorem whole_off {l : List Int} {k : Nat} (h : l.length ≠ k) : wholeZ l k = -1 := by
  unfold wholeZ; rw [if_neg h]
theorem dgN {c : Int} (h : ¬ (48 ≤ c ∧ c ≤ 57)) : dgB c = false := by rw [← Bool.not_eq_true, dgB_iff]; exact h
theorem numGo_y {c : Int} (w : Nat) (r : List Int) (acc : Int) (h : 48 ≤ c ∧ c ≤ 57) : numGo (w + 1) (c :: r) acc = numGo w r (acc * 10 + (c - 48)) := by rw [numGo, if_pos ((dgB_iff c).2 h)]
theorem numGo_n {c : Int} (w : Nat) (r : List Int) (acc : Int) (h : ¬ (48 ≤ c ∧ c ≤ 57)) : numGo (w + 1) (c :: r) acc = -1 := by rw [numGo, dgN h]; rfl
theorem num2 (a b : Int) (r : List Int) : numGo 2 (a :: b :: r) 0 = if 48 ≤ a ∧ a ≤ 57 ∧ 48 ≤ b ∧ b ≤ 57 then (a - 48) * 10 + (b - 48) else -1 := by
  by_cases h1 : 48 ≤ a ∧ a ≤ 57
  · rw [numGo_y _ _ _ h1]
    by_cases h2 : 48 ≤ b ∧ b ≤ 57
    · rw [numGo_y _ _ _ h2, numGo, if_pos ⟨h1.1, h1.2, h2.1, h2.2⟩]; omega
    · rw [numGo_n _ _ _ h2, if_neg (by omega)]
  · rw [numGo_n _ _ _ h1, if_neg (by omega)]
theorem num1 (a : Int) : numGo 1 [a] 0 = if 48 ≤ a ∧ a ≤ 57 then a - 48 else -1 := by
  by_cases h1 : 48 ≤ a ∧ a ≤ 57
  · rw [numGo_y _ _ _ h1, numGo, if_pos h1]; omega
  · rw [numGo_n _ _ _ h1, if_neg h1]
theorem num_19 (a b : Int) : numGo 4 [49, 57, a, b] 0 = if 48 ≤ a ∧ a ≤ 57 ∧ 48 ≤ b ∧ b ≤ 57 then 1900 + ((a - 48) * 10 + (b - 48)) else -1 := by
  rw [numGo_y _ _ _ (by decide), numGo_y _ _ _ (by decide)]
  by_cases h1 : 48 ≤ a ∧ a ≤ 57
  · rw [numGo_y _ _ _ h1]
    by_cases h2 : 48 ≤ b ∧ b ≤ 57
    · rw [numGo_y _ _ _ h2, numGo, if_pos ⟨h1.1, h1.2, h2.1, h2.2⟩]; omega
    · rw [numGo_n _ _ _ h2, if_neg (by omega)]
  · rw [numGo_n _ _ _ h1, if_neg (by omega)]
theorem num_20 (a b : Int) : numGo 4 [50, 48, a, b] 0 = if 48 ≤ a ∧ a ≤ 57 ∧ 48 ≤ b ∧ b ≤ 57 then 2000 + ((a - 48) * 10 + (b - 48)) else -1 := by
  rw [numGo_y _ _ _ (by decide), numGo_y _ _ _ (by decide)]
  by_cases h1 : 48 ≤ a ∧ a ≤ 57
  · rw [numGo_y _ _ _ h1]
    by_cases h2 : 48 ≤ b ∧ b ≤ 57
    · rw [numGo_y _ _ _ h2, numGo, if_pos ⟨h1.1, h1.2, h2.1, h2.2⟩]; omega
    · rw [numGo_n _ _ _ h2, if_neg (by omega)]
  · rw [numGo_n _ _ _ h1, if_neg (by omega)]
theorem u8_bd (c : UInt8) : 0 ≤ (c.toNat : Int) ∧ (c.toNat : Int) < 256 := by have := c.toNat_lt; omega
/-- The year: four bytes that read alike, or none. -/
theorem yr_at (w : List UInt8) : ((wz (yrS w)).length = 4 ∧ numGo 4 (wz (yrS w)) 0 = yearZ (wz w)) ∨ (yrS w = [] ∧ yearZ (wz w) = -1) := by
  unfold yrS yearZ
  by_cases h4 : w.length = 4
  · left
    rw [if_pos h4, whole_off (k := 2) (by rw [wz_len]; omega), if_neg (by decide), if_neg (by decide), whole_at (by rw [wz_len]; exact h4)]
    exact ⟨by rw [wz_len]; exact h4, rfl⟩
  · by_cases h2 : w.length = 2
    · left
      rw [if_neg h4, if_neg (by omega)]
      match w, h2 with
      | [p, q], _ =>
        have hp := u8_bd p
        have hq := u8_bd q
        rw [whole_at (l := wz [p, q]) (k := 2) rfl, whole_off (l := wz [p, q]) (k := 4) (by simp [wz_len]), show wz [p, q] = [(p.toNat : Int), (q.toNat : Int)] from rfl, num2]
        have hlt := ltZ_iff (p.toNat : Int) 53 [(q.toNat : Int)] [48]
        have hlt2 := ltZ_iff (q.toNat : Int) 48 [] []
        have hn : ltZ [] [] = false := rfl
        rw [hn] at hlt2
        rcases hb : ltZ [(p.toNat : Int), (q.toNat : Int)] [53, 48] with _ | _
        · rw [if_neg (by decide)]
          refine ⟨rfl, ?_⟩
          show numGo 4 [49, 57, (p.toNat : Int), (q.toNat : Int)] 0 = _
          rw [num_19]
          rw [hb, hlt2] at hlt
          have hno : ¬ ((p.toNat : Int) < 53 ∨ (p.toNat : Int) = 53 ∧ ((q.toNat : Int) < 48 ∨ (q.toNat : Int) = 48 ∧ false = true)) := fun h => absurd (hlt.2 h) (by decide)
          split <;> rename_i hd
          · rw [if_pos (by omega)]
          · rw [if_neg (by omega), if_neg (by omega)]
        · rw [if_pos (by decide)]
          refine ⟨rfl, ?_⟩
          show numGo 4 [50, 48, (p.toNat : Int), (q.toNat : Int)] 0 = _
          rw [num_20]
          rw [hb, hlt2] at hlt
          have hyes := hlt.1 rfl
          split <;> rename_i hd
          · have : ¬ (50 ≤ ((p.toNat : Int) - 48) * 10 + ((q.toNat : Int) - 48)) := by
              rcases hyes with h | ⟨h, h' | ⟨_, h'⟩⟩
              · omega
              · omega
              · cases h'
            rw [if_neg this, if_pos (by omega)]
          · rw [if_neg (by omega), if_neg (by omega)]
    · right
      rw [if_neg h4, if_pos h2, whole_off (k := 2) (by rw [wz_len]; exact h2), if_neg (by decide), if_neg (by decide), whole_off (by rw [wz_len]; exact h4)]
      exact ⟨rfl, rfl⟩
theorem dy_at (w : List UInt8) : ((wz (dyS w)).length = 2 ∧ numGo 2 (wz (dyS w)) 0 = dayZ w) ∨ (dyS w = [] ∧ dayZ w = -1) := by
  unfold dyS dayZ
  by_cases h1 : w.length = 1
  · left
    rw [if_pos h1]
    match w, h1 with
    | [p], _ =>
      refine ⟨rfl, ?_⟩
      rw [whole_at (l := wz [p]) (k := 1) rfl, whole_off (l := wz [p]) (k := 2) (by simp [wz_len]), show wz [p] = [(p.toNat : Int)] from rfl, num1]
      show numGo 2 [48, (p.toNat : Int)] 0 = _
      rw [num2]
      by_cases hd : 48 ≤ (p.toNat : Int) ∧ (p.toNat : Int) ≤ 57
      · rw [if_pos hd, if_pos (by omega), if_neg (by omega)]; omega
      · rw [if_neg hd, if_neg (by omega), if_pos (by omega)]
  · by_cases h2 : w.length = 2
    · left
      rw [if_neg h1, if_pos h2, whole_off (k := 1) (by rw [wz_len]; exact h1), if_pos (by decide), whole_at (by rw [wz_len]; exact h2)]
      exact ⟨by rw [wz_len]; exact h2, rfl⟩
    · right
      rw [if_neg h1, if_neg h2, whole_off (k := 1) (by rw [wz_len]; exact h1), if_pos (by decide), whole_off (by rw [wz_len]; exact h2)]
      exact ⟨rfl, rfl⟩
theorem mo_k : ∀ k : Fin 12, (wz (nS (d2 ((k.val : Int) + 1)))).length = 2 ∧ numGo 2 (wz (nS (d2 ((k.val : Int) + 1)))) 0 = (k.val : Int) + 1 := by decide
theorem mo_at {w : List UInt8} (hw : isLow w) : ((wz (moS w)).length = 2 ∧ numGo 2 (wz (moS w)) 0 = findP monthNames w + 1) ∨ (moS w = [] ∧ findP monthNames w + 1 = 0) := by
  unfold moS
  rcases Int.lt_or_le (findP monthNames w) 0 with h0 | h0
  · right
    have hb := findP_bd monthNames w
    exact ⟨if_neg (by omega), by omega⟩
  · left
    obtain ⟨k, a, b⟩ := findP_some h0 hw
    have h36 : monthNames.length = 36 := rfl
    have hk : k < 12 := by omega
    have hf := mon_k ⟨k, hk⟩
    have hm : w = monL k := b.symm
    rw [← hm] at hf
    simp only at hf
    rw [if_pos h0, hf]
    exact mo_k ⟨k, hk⟩
theorem cl_at (w : List UInt8) : ((clS w).length = 8 ∧ clS w = clockW w) ∨ (clS w = [] ∧ clockB (clockW w) = false) := by
  unfold clS clockW
  by_cases h5 : w.length = 5
  · left
    rw [if_pos h5, if_pos h5]
    exact ⟨by rw [List.length_append, h5]; rfl, rfl⟩
  · rw [if_neg h5, if_neg h5]
    by_cases h8 : w.length = 8
    · left; rw [if_pos h8]; exact ⟨h8, rfl⟩
    · right
      rw [if_neg h8]
      refine ⟨rfl, ?_⟩
      unfold clockB
      rw [show (w.length == 8) = false by simpa using h8]; rfl
/-- Behind nineteen numbers. -/
theorem zo_named : ∀ k : Fin 12, zoS (zoneN k.val) = zoneT k.val ∧ (offW (wz (zoneT k.val))).2 = true ∧ (offW (wz (zoneT k.val))).1 = (zoneV (ofBytes (zoneN k.val))).1 * 60 ∧ (zoneV (ofBytes (zoneN k.val))).2 = true ∧ (ch (wz (zoneT k.val)) 0 = 45 ∨ ch (wz (zoneT k.val)) 0 = 90) := by decide
/-- The zone: it reads alike; it begins with a sign or Z, or there is none. -/
theorem zo_at {w : List UInt8} (hw : isLow w) : ((offW (wz (zoS w))).2 = (zoneV (ofBytes w)).2 ∧ ((zoneV (ofBytes w)).2 = true → (offW (wz (zoS w))).1 = (zoneV (ofBytes w)).1 * 60)) ∧ (zoS w = [] ∨ ch (wz (zoS w)) 0 = 43 ∨ ch (wz (zoS w)) 0 = 45 ∨ ch (wz (zoS w)) 0 = 90) := by
  by_cases hk : ∃ k, k < 12 ∧ w = zoneN k
  · obtain ⟨k, hk, rfl⟩ := hk
    obtain ⟨a, b, c, d, e⟩ := zo_named ⟨k, hk⟩
    simp only at a b c d e
    rw [a]
    exact ⟨⟨by rw [b, d], fun _ => c⟩, .inr (.inr e)⟩
  · have hno : ∀ k, k < 12 → w ≠ zoneN k := fun k h1 h2 => hk ⟨k, h1, h2⟩
    have hv : zoneV (ofBytes w) = zoneNum (wz w) := by
      unfold zoneV
      rw [ofBytes_list, hw, zoneF_no w 12 0 (by simpa using hno), wz_zs]
    rw [hv]
    unfold zoS
    by_cases hs : signed w
    · rw [if_pos hs]
      obtain ⟨h5, hs0⟩ := hs
      match w, h5 with
      | [x, a, b, c, d], _ =>
        have hx : x = 43 ∨ x = 45 := hs0
        have hxi : (x.toNat : Int) = 43 ∨ (x.toNat : Int) = 45 := by rcases hx with h | h <;> rw [h] <;> decide
        rw [show wz [x, a, b, c, d] = [(x.toNat : Int), (a.toNat : Int), (b.toNat : Int), (c.toNat : Int), (d.toNat : Int)] from rfl, show wz ([x, a, b, c, d].take 3 ++ 58 :: [x, a, b, c, d].drop 3) = [(x.toNat : Int), (a.toNat : Int), (b.toNat : Int), 58, (c.toNat : Int), (d.toNat : Int)] from rfl]
        have hx90 : ¬ ((x.toNat : Int) = 90) := by omega
        have hx122 : ¬ ((x.toNat : Int) = 122) := by omega
        generalize (x.toNat : Int) = X at *
        generalize (a.toNat : Int) = A at *
        generalize (b.toNat : Int) = B at *
        generalize (c.toNat : Int) = C at *
        generalize (d.toNat : Int) = D at *
        refine ⟨?_, by rcases hxi with h | h <;> rw [h] <;> simp [ch]⟩
        have e1 : grp 58 true [2, 2] [A, B, 58, C, D] = if 0 ≤ numGo 2 [A, B] 0 then (if 0 ≤ numGo 2 [C, D] 0 then ([numGo 2 [A, B] 0, numGo 2 [C, D] 0], true) else ([numGo 2 [A, B] 0], false)) else ([], false) := by
          have h := grp_22 58 [A, B, 58, C, D] 0
          rw [List.drop_zero] at h
          rw [h]
          have h1 : numL [A, B, 58, C, D] 0 2 = numGo 2 [A, B] 0 := numGo_app 2 [A, B] [58, C, D] 0 rfl
          have h2 : numL [A, B, 58, C, D] (0 + 3) 2 = numGo 2 [C, D] 0 := rfl
          have h3 : ch [A, B, 58, C, D] (0 + 2) = 58 := rfl
          rw [h1, h2, h3]
          simp
        have n1 : numL [X, A, B, C, D] 1 2 = numGo 2 [A, B] 0 := numGo_app 2 [A, B] [C, D] 0 rfl
        have n2 : numL [X, A, B, C, D] 3 2 = numGo 2 [C, D] 0 := rfl
        have hoff : offW [X, A, B, 58, C, D] = if (0 ≤ numGo 2 [A, B] 0 ∧ numGo 2 [A, B] 0 ≤ 23) ∧ (0 ≤ numGo 2 [C, D] 0 ∧ numGo 2 [C, D] 0 ≤ 59) then (if X = 45 then -((numGo 2 [A, B] 0 * 60 + numGo 2 [C, D] 0) * 60) else (numGo 2 [A, B] 0 * 60 + numGo 2 [C, D] 0) * 60, true) else (0, false) := by
          unfold offW
          rw [if_neg (by simp)]
          simp only [List.drop_succ_cons, List.drop_zero]
          rw [e1]
          have hc0 : ch [X, A, B, 58, C, D] 0 = X := rfl
          rw [hc0]
          by_cases g1 : 0 ≤ numGo 2 [A, B] 0
          · rw [if_pos g1]
            by_cases g2 : 0 ≤ numGo 2 [C, D] 0
            · rw [if_pos g2]
              simp only [List.getD_cons_zero, List.getD_cons_succ]
              by_cases g3 : numGo 2 [A, B] 0 ≤ 23 ∧ numGo 2 [C, D] 0 ≤ 59
              · rw [if_pos (show (X = 43 ∨ X = 45) ∧ True ∧ numGo 2 [A, B] 0 ≤ 23 ∧ numGo 2 [C, D] 0 ≤ 59 from ⟨hxi, trivial, g3.1, g3.2⟩), if_pos (show (0 ≤ numGo 2 [A, B] 0 ∧ numGo 2 [A, B] 0 ≤ 23) ∧ (0 ≤ numGo 2 [C, D] 0 ∧ numGo 2 [C, D] 0 ≤ 59) from ⟨⟨g1, g3.1⟩, g2, g3.2⟩)]
              · rw [if_neg (show ¬ ((X = 43 ∨ X = 45) ∧ True ∧ numGo 2 [A, B] 0 ≤ 23 ∧ numGo 2 [C, D] 0 ≤ 59) from fun h => g3 ⟨h.2.2.1, h.2.2.2⟩), if_neg (show ¬ ((0 ≤ numGo 2 [A, B] 0 ∧ numGo 2 [A, B] 0 ≤ 23) ∧ (0 ≤ numGo 2 [C, D] 0 ∧ numGo 2 [C, D] 0 ≤ 59)) from fun h => g3 ⟨h.1.2, h.2.2⟩)]
            · rw [if_neg g2, if_neg (by rintro ⟨_, h, _⟩; cases h), if_neg (fun h => g2 h.2.1)]
          · rw [if_neg g1, if_neg (by rintro ⟨_, h, _⟩; cases h), if_neg (fun h => g1 h.1.1)]
        have hnum : zoneNum [X, A, B, C, D] = if (0 ≤ numGo 2 [A, B] 0 ∧ numGo 2 [A, B] 0 ≤ 23) ∧ (0 ≤ numGo 2 [C, D] 0 ∧ numGo 2 [C, D] 0 ≤ 59) then (if X = 45 then -60 * numGo 2 [A, B] 0 - numGo 2 [C, D] 0 else 60 * numGo 2 [A, B] 0 + numGo 2 [C, D] 0, true) else (0, false) := by
          unfold zoneNum
          rw [n1, n2]
          have hc0 : ch [X, A, B, C, D] 0 = X := rfl
          rw [hc0]
          have hcb : (X == 43 || X == 45) = true := by rcases hxi with h | h <;> rw [h] <;> rfl
          rw [hcb]
          simp only [List.length_cons, List.length_nil, Nat.zero_add, Nat.reduceAdd, BEq.rfl, Bool.true_and, Bool.and_eq_true, decide_eq_true_eq, beq_iff_eq]
        rw [hoff, hnum]
        generalize numGo 2 [A, B] 0 = P at *
        generalize numGo 2 [C, D] 0 = Q at *
        by_cases g : (0 ≤ P ∧ P ≤ 23) ∧ (0 ≤ Q ∧ Q ≤ 59)
        · rw [if_pos g, if_pos g]
          refine ⟨rfl, fun _ => ?_⟩
          simp only
          split <;> omega
        · rw [if_neg g, if_neg g]
          exact ⟨rfl, fun h => by cases h⟩
    · rw [if_neg hs, zoneM_no w 12 hno]
      have hz : (zoneNum (wz w)).2 = false := by
        unfold zoneNum
        rw [if_neg]
        rw [wz_len]
        intro h
        simp only [Bool.and_eq_true, Bool.or_eq_true, beq_iff_eq, decide_eq_true_eq] at h
        obtain ⟨⟨⟨h5, h0⟩, _⟩, _⟩ := h
        refine hs ⟨h5, ?_⟩
        match w, h5 with
        | [x, a, b, c, d], _ =>
          have hc : ch (wz [x, a, b, c, d]) 0 = (x.toNat : Int) := rfl
          rw [hc] at h0
          show x = 43 ∨ x = 45
          rcases h0 with h | h
          · exact .inl (UInt8.toNat_inj.1 (by have : (43 : UInt8).toNat = 43 := rfl; omega))
          · exact .inr (UInt8.toNat_inj.1 (by have : (45 : UInt8).toNat = 45 := rfl; omega))
      rw [hz]
      exact ⟨⟨by decide, fun h => by cases h⟩, .inl rfl⟩

/-! ### all together -/
theorem off_19 {P Z : List Int} (hP : P.length = 19) : offW Z = offV (P ++ Z) 19 ∨ ((offW Z).2 = false ∧ (offV (P ++ Z) 19).2 = false) := by
  have h := offW_at (P ++ Z) 19
  rw [List.drop_append_of_le_length (by omega), List.drop_of_length_le (by omega), List.nil_append] at h
  exact h
theorem frac_19 {P Z : List Int} (hP : P.length = 19) (h : ch Z 0 ≠ 46) : fracV (P ++ Z) = (19, true) := by
  have hc : ch (P ++ Z) 19 = ch Z 0 := by
    have := ch_drop (P ++ Z) 19 0
    rw [List.drop_append_of_le_length (by omega), List.drop_of_length_le (by omega), List.nil_append] at this
    exact this.symm
  unfold fracV
  rw [isL_ne hc h h]; rfl
theorem sec_no_at {l : List Int} {i k : Nat} (hk : 0 < k) (h : (ch l i < 48 ∨ 57 < ch l i)) : numL l i k = -1 := by
  obtain ⟨k, rfl⟩ : ∃ j, k = j + 1 := ⟨k - 1, by omega⟩
  unfold numL
  rcases Nat.lt_or_ge i l.length with hi | hi
  · rw [drop_ch l i hi, numGo_n _ _ _ (by omega)]
  · rw [List.drop_eq_nil_of_le hi]; rfl
theorem secV_no {y m d h mi s : Int} (hh : y < 1 ∨ m < 1 ∨ d < 1 ∨ h < 0 ∨ mi < 0 ∨ s < 0) : ((secV y m d h mi s).2 == 0) = false := by
  unfold secV
  rw [if_neg]
  · rfl
  · unfold okTime
    rw [Bool.and_eq_true, decide_eq_true_eq, okB_iff]
    rintro ⟨⟨a, b, c, d, e, f⟩, g⟩
    omega
theorem four_of {l : List Int} (h : l.length = 4) : ∃ a b c d, l = [a, b, c, d] := by
  match l, h with
  | [a, b, c, d], _ => exact ⟨a, b, c, d, rfl⟩
theorem two_of {l : List Int} (h : l.length = 2) : ∃ a b, l = [a, b] := by
  match l, h with
  | [a, b], _ => exact ⟨a, b, rfl⟩
theorem eight_of {l : List UInt8} (h : l.length = 8) : ∃ a b c d e f g i, l = [a, b, c, d, e, f, g, i] := by
  match l, h with
  | [a, b, c, d, e, f, g, i], _ => exact ⟨a, b, c, d, e, f, g, i, rfl⟩
theorem ch_zone {Z : List Int} (h : Z = [] ∨ ch Z 0 = 43 ∨ ch Z 0 = 45 ∨ ch Z 0 = 90) : ch Z 0 ≠ 46 ∧ (ch Z 0 < 48 ∨ 57 < ch Z 0) := by
  rcases h with rfl | h | h | h
  · exact ⟨by decide, .inl (by decide)⟩
  · omega
  · omega
  · omega
theorem no_parse {l : List Int} (h : numL l 0 4 < 0 ∨ numL l 5 2 < 0 ∨ numL l 8 2 < 0 ∨ numL l 11 2 < 0 ∨ numL l 14 2 < 0 ∨ numL l 17 2 < 0) : parseL l = (0, 20) := parse_nosec3 (by rw [secL_no h]; decide)
/-- The parts, put together, are read as the words are. -/
theorem built_parse (w0 w1 w2 w3 w4 : List UInt8) (h1 : isLow w1) (h4 : isLow w4) : parseL (wz (builtS w0 w1 w2 w3 w4)) = fiveV w0 w1 w2 w3 w4 := by
  obtain ⟨⟨z1, z2⟩, z3⟩ := zo_at h4
  have z3' : wz (zoS w4) = [] ∨ ch (wz (zoS w4)) 0 = 43 ∨ ch (wz (zoS w4)) 0 = 45 ∨ ch (wz (zoS w4)) 0 = 90 := by
    rcases z3 with h | h
    · exact .inl (by rw [h]; rfl)
    · exact .inr h
  obtain ⟨z46, zdig⟩ := ch_zone z3'
  have hB : wz (builtS w0 w1 w2 w3 w4) = wz (yrS w2) ++ 45 :: (wz (moS w1) ++ 45 :: (wz (dyS w0) ++ 84 :: (wz (clS w3) ++ wz (zoS w4)))) := by
    unfold builtS
    simp only [wz_app, wz_cons]
    rfl
  rw [hB]
  have hyr : ((wz (yrS w2)).length = 4 ∧ numGo 4 (wz (yrS w2)) 0 = yearZ (wz w2)) ∨ (wz (yrS w2) = [] ∧ yearZ (wz w2) = -1) := (yr_at w2).imp_right fun h => ⟨by rw [h.1]; rfl, h.2⟩
  have hmo : ((wz (moS w1)).length = 2 ∧ numGo 2 (wz (moS w1)) 0 = findP monthNames w1 + 1) ∨ (wz (moS w1) = [] ∧ findP monthNames w1 + 1 = 0) := (mo_at h1).imp_right fun h => ⟨by rw [h.1]; rfl, h.2⟩
  have hdy : ((wz (dyS w0)).length = 2 ∧ numGo 2 (wz (dyS w0)) 0 = dayZ w0) ∨ (wz (dyS w0) = [] ∧ dayZ w0 = -1) := (dy_at w0).imp_right fun h => ⟨by rw [h.1]; rfl, h.2⟩
  have hcl := cl_at w3
  generalize wz (zoS w4) = Z at *
  generalize wz (yrS w2) = Y at *
  generalize wz (moS w1) = M at *
  generalize wz (dyS w0) = D at *
  generalize hzv : zoneV (ofBytes w4) = zv at *
  obtain ⟨zm, zb⟩ := zv
  simp only at z1 z2
  unfold fiveV
  rw [hzv]
  simp only
  clear hB h1 h4 hzv z3
  rcases hyr.symm with ⟨rfl, y2⟩ | ⟨y1, y2⟩
  · rw [show ((fiveSec w0 w1 w2 (clockW w3)).2 == 0) = false from secV_no (by omega), Bool.and_false]
    exact no_parse (.inl (by rw [sec_no_at (by omega) (.inl (by show (45 : Int) < 48; decide))]; decide))
  obtain ⟨a, b, c, d, rfl⟩ := four_of y1
  rcases hmo.symm with ⟨rfl, m2⟩ | ⟨m1, m2⟩
  · rw [show ((fiveSec w0 w1 w2 (clockW w3)).2 == 0) = false from secV_no (by omega), Bool.and_false]
    exact no_parse (.inr (.inl (by rw [sec_no_at (by omega) (.inl (by show (45 : Int) < 48; decide))]; decide)))
  obtain ⟨e, f, rfl⟩ := two_of m1
  rcases hdy.symm with ⟨rfl, d2⟩ | ⟨d1, d2⟩
  · rw [show ((fiveSec w0 w1 w2 (clockW w3)).2 == 0) = false from secV_no (by omega), Bool.and_false]
    exact no_parse (.inr (.inr (.inl (by rw [sec_no_at (by omega) (.inr (by show (57 : Int) < 84; decide))]; decide))))
  obtain ⟨g, i, rfl⟩ := two_of d1
  rcases hcl.symm with ⟨hc0, c2⟩ | ⟨c1, c2⟩
  · rw [hc0, c2, Bool.and_false, Bool.false_and]
    exact no_parse (.inr (.inr (.inr (.inl (by rw [sec_no_at (i := 11) (by omega) (by show ch Z 0 < 48 ∨ 57 < ch Z 0; exact zdig)]; decide)))))
  rw [← c2]
  obtain ⟨k0, k1, k2, k3, k4, k5, k6, k7, hk⟩ := eight_of c1
  rw [hk]
  obtain ⟨P, hP⟩ : ∃ P, P = [a, b, c, d, 45, e, f, 45, g, i, 84, (k0.toNat : Int), (k1.toNat : Int), (k2.toNat : Int), (k3.toNat : Int), (k4.toNat : Int), (k5.toNat : Int), (k6.toNat : Int), (k7.toNat : Int)] := ⟨_, rfl⟩
  have hPl : P.length = 19 := by rw [hP]; rfl
  have hsec : secL (P ++ Z) = fiveSec w0 w1 w2 [k0, k1, k2, k3, k4, k5, k6, k7] := by
    unfold secL fiveSec
    rw [← y2, ← m2, ← d2, hP]
    rw [whole_at (l := wz ([k0, k1, k2, k3, k4, k5, k6, k7].take 2)) (k := 2) rfl, whole_at (l := wz (([k0, k1, k2, k3, k4, k5, k6, k7].drop 3).take 2)) (k := 2) rfl, whole_at (l := wz ([k0, k1, k2, k3, k4, k5, k6, k7].drop 6)) (k := 2) rfl]
    have n1 := numGo_app 4 [a, b, c, d] ([45, e, f, 45, g, i, 84, (k0.toNat : Int), (k1.toNat : Int), (k2.toNat : Int), (k3.toNat : Int), (k4.toNat : Int), (k5.toNat : Int), (k6.toNat : Int), (k7.toNat : Int)] ++ Z) 0 rfl
    have n2 := numGo_app 2 [e, f] ([45, g, i, 84, (k0.toNat : Int), (k1.toNat : Int), (k2.toNat : Int), (k3.toNat : Int), (k4.toNat : Int), (k5.toNat : Int), (k6.toNat : Int), (k7.toNat : Int)] ++ Z) 0 rfl
    have n3 := numGo_app 2 [g, i] ([84, (k0.toNat : Int), (k1.toNat : Int), (k2.toNat : Int), (k3.toNat : Int), (k4.toNat : Int), (k5.toNat : Int), (k6.toNat : Int), (k7.toNat : Int)] ++ Z) 0 rfl
    have n4 := numGo_app 2 [(k0.toNat : Int), (k1.toNat : Int)] ([(k2.toNat : Int), (k3.toNat : Int), (k4.toNat : Int), (k5.toNat : Int), (k6.toNat : Int), (k7.toNat : Int)] ++ Z) 0 rfl
    have n5 := numGo_app 2 [(k3.toNat : Int), (k4.toNat : Int)] ([(k5.toNat : Int), (k6.toNat : Int), (k7.toNat : Int)] ++ Z) 0 rfl
    have n6 := numGo_app 2 [(k6.toNat : Int), (k7.toNat : Int)] Z 0 rfl
    rw [← n1, ← n2, ← n3]
    show secV _ _ _ _ _ _ = secV _ _ _ (numGo 2 [(k0.toNat : Int), (k1.toNat : Int)] 0) (numGo 2 [(k3.toNat : Int), (k4.toNat : Int)] 0) (numGo 2 [(k6.toNat : Int), (k7.toNat : Int)] 0)
    rw [← n4, ← n5, ← n6]
    rfl
  have hseps : sepsB (P ++ Z) = clockB [k0, k1, k2, k3, k4, k5, k6, k7] := by
    rw [hP]
    have e1 : sepsB ([a, b, c, d, 45, e, f, 45, g, i, 84, (k0.toNat : Int), (k1.toNat : Int), (k2.toNat : Int), (k3.toNat : Int), (k4.toNat : Int), (k5.toNat : Int), (k6.toNat : Int), (k7.toNat : Int)] ++ Z) = (((k2.toNat : Int) == 58 || (k2.toNat : Int) == 58) && ((k5.toNat : Int) == 58 || (k5.toNat : Int) == 58)) := rfl
    have e2 : clockB [k0, k1, k2, k3, k4, k5, k6, k7] = (k2.toNat == 58 && k5.toNat == 58) := rfl
    rw [e1, e2, Bool.eq_iff_iff]
    simp only [Bool.or_self, Bool.and_eq_true, beq_iff_eq]
    omega
  have hfr := frac_19 hPl z46
  show parseL ([a, b, c, d] ++ 45 :: ([e, f] ++ 45 :: ([g, i] ++ 84 :: (wz [k0, k1, k2, k3, k4, k5, k6, k7] ++ Z)))) = _
  rw [show [a, b, c, d] ++ 45 :: ([e, f] ++ 45 :: ([g, i] ++ 84 :: (wz [k0, k1, k2, k3, k4, k5, k6, k7] ++ Z))) = P ++ Z by rw [hP]; rfl]
  clear hP
  unfold parseL
  rw [hfr, hsec, hseps]
  simp only [Bool.and_true]
  generalize fiveSec w0 w1 w2 [k0, k1, k2, k3, k4, k5, k6, k7] = S at *
  generalize clockB [k0, k1, k2, k3, k4, k5, k6, k7] = cb at *
  rcases off_19 (Z := Z) hPl with ho | ⟨ho1, ho2⟩
  · rw [← ho, z1]
    cases zb
    · simp
    · rw [z2 rfl]
      simp [Bool.and_comm]
  · rw [ho2]
    rw [ho1] at z1
    rw [← z1]
    simp
end Go.Proofs.YtdbpkggjnmapiaaDoor
