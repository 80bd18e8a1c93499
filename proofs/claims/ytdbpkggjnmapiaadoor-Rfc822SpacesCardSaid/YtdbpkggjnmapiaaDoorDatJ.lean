/- Plain facts of layer 3: the code's own reading of a date and time, by pieces, gives what the form says. -/
import Derived.Test.YtdbpkggjnmapiaaDoorDatA
import Derived.Test.YtdbpkggjnmapiaaDoorDatB
import Derived.Test.YtdbpkggjnmapiaaDoorDatH
import Derived.Lib.SlTrimSet
namespace Go.Proofs.YtdbpkggjnmapiaaDoor
open Go.RowKit

theorem numGo_take : ∀ (k : Nat) (l : List Int) (acc : Int), k ≤ l.length → 0 ≤ acc → numGo k l acc = (if (l.take k).all dgB then numGo k (l.take k) acc else -1) ∧ ((l.take k).all dgB = true → 0 ≤ numGo k l acc)
  | 0, l, acc, _, h => by simp [numGo, h]
  | k + 1, [], _, h, _ => by simp at h
  | k + 1, c :: r, acc, h, h0 => by
    rw [List.take_succ_cons, List.all_cons, numGo, numGo]
    rcases hd : dgB c with _ | _
    · simp
    · have hd' := (dgB_iff c).1 hd
      have := numGo_take k r (acc * 10 + (c - 48)) (by simpa using h) (by omega)
      simpa using this
theorem numV_take (l : List Int) (i k : Nat) (h : i + k ≤ l.length) : numV ((l.drop i).take k) = if 0 ≤ numL l i k then (numL l i k, true) else (0, false) := by
  have hk : k ≤ (l.drop i).length := by rw [List.length_drop]; omega
  obtain ⟨h1, h2⟩ := numGo_take k (l.drop i) 0 hk (Int.le_refl _)
  unfold numV numL
  rw [List.length_take, Nat.min_eq_left hk]
  rcases ha : ((l.drop i).take k).all dgB with _ | _
  · rw [ha] at h1
    rw [h1]; rfl
  · rw [ha] at h1
    have h3 := h2 ha
    rw [if_pos rfl] at h1
    rw [if_pos h3, if_pos rfl, h1]
theorem grp_first (sep : Int) (k : Nat) (ws : List Nat) (l : List Int) (i : Nat) (hk : 0 < k) : grp sep true (k :: ws) (l.drop i) =
    if 0 ≤ numL l i k then (numL l i k :: (grp sep false ws (l.drop (i + k))).1, (grp sep false ws (l.drop (i + k))).2) else ([], false) := by
  rw [grp]
  simp only [Bool.true_or, if_true, List.drop_drop, List.length_drop, Nat.add_zero]
  by_cases h : l.length < i + k
  · have hc : l.length - i < k := by omega
    rw [if_pos hc, numL_short l i k h hk, if_neg (by decide)]
  · have hc : ¬ l.length - i < k := by omega
    rw [if_neg hc, numV_take l i k (by omega)]
    by_cases h0 : 0 ≤ numL l i k
    · rw [if_pos h0, if_pos rfl, if_pos h0]
    · rw [if_neg h0, if_neg h0]; rfl
theorem ch_drop (l : List Int) (i j : Nat) : ch (l.drop i) j = ch l (i + j) := by
  unfold ch; rw [List.getD_eq_getElem?_getD, List.getD_eq_getElem?_getD, List.getElem?_drop]
theorem grp_next (sep : Int) (k : Nat) (ws : List Nat) (l : List Int) (i : Nat) (hk : 0 < k) : grp sep false (k :: ws) (l.drop i) =
    if ch l i = sep ∧ 0 ≤ numL l (i + 1) k then (numL l (i + 1) k :: (grp sep false ws (l.drop (i + 1 + k))).1, (grp sep false ws (l.drop (i + 1 + k))).2) else ([], false) := by
  rw [grp, ch_drop, Nat.add_zero]
  by_cases hc : ch l i = sep
  · rw [if_pos (by simp [hc])]
    have := grp_first sep k ws l (i + 1) hk
    rw [grp] at this
    simp only [Bool.true_or, if_true, List.drop_zero] at this
    simp only [Bool.false_eq_true, if_false, List.drop_drop (i := 1)]
    rw [this]
    by_cases h0 : 0 ≤ numL l (i + 1) k
    · rw [if_pos h0, if_pos ⟨hc, h0⟩]
    · rw [if_neg h0, if_neg (fun h => h0 h.2)]
  · rw [if_neg (by simp [hc]), if_neg (fun h => hc h.1)]
theorem grp_end (sep : Int) (b : Bool) (l : List Int) (i : Nat) : grp sep b [] (l.drop i) = ([], decide (l.length ≤ i)) := by
  rw [grp]
  congr 1
  rw [Bool.eq_iff_iff, List.isEmpty_iff, decide_eq_true_eq]
  exact List.drop_eq_nil_iff
/-- Two groups of two digits. -/
theorem grp_22 (sep : Int) (l : List Int) (i : Nat) : grp sep true [2, 2] (l.drop i) =
    if 0 ≤ numL l i 2 then (if ch l (i + 2) = sep ∧ 0 ≤ numL l (i + 3) 2 then ([numL l i 2, numL l (i + 3) 2], decide (l.length ≤ i + 5)) else ([numL l i 2], false)) else ([], false) := by
  rw [grp_first _ _ _ _ _ (by omega), grp_next _ _ _ _ _ (by omega), grp_end]
  split
  · split <;> rfl
  · rfl
theorem grp_k22 (sep : Int) (k : Nat) (hk : 0 < k) (l : List Int) (i : Nat) : grp sep true [k, 2, 2] (l.drop i) =
    if 0 ≤ numL l i k then (if ch l (i + k) = sep ∧ 0 ≤ numL l (i + k + 1) 2 then (if ch l (i + k + 3) = sep ∧ 0 ≤ numL l (i + k + 4) 2 then ([numL l i k, numL l (i + k + 1) 2, numL l (i + k + 4) 2], decide (l.length ≤ i + k + 6)) else ([numL l i k, numL l (i + k + 1) 2], false)) else ([numL l i k], false)) else ([], false) := by
  rw [grp_first _ _ _ _ _ hk, grp_next _ _ _ _ _ (by omega), grp_next _ _ _ _ _ (by omega), grp_end]
  split
  · split
    · split <;> rfl
    · rfl
  · rfl
theorem ch_take (l : List Int) (n i : Nat) (h : i < n) : ch (l.take n) i = ch l i := by
  unfold ch; rw [List.getD_eq_getElem?_getD, List.getD_eq_getElem?_getD, List.getElem?_take, if_pos h]
theorem numGo_min : ∀ (k j : Nat) (l : List Int) (acc : Int), k ≤ j → numGo k (l.take j) acc = numGo k l acc
  | 0, _, _, _, _ => by rw [numGo, numGo]
  | k + 1, 0, _, _, h => absurd h (by omega)
  | k + 1, j + 1, [], _, _ => by rw [List.take_nil]
  | k + 1, j + 1, c :: r, acc, h => by
    rw [List.take_succ_cons, numGo, numGo, numGo_min k j r _ (by omega)]
theorem numL_take (l : List Int) (n i k : Nat) (h : i + k ≤ n) : numL (l.take n) i k = numL l i k := by
  unfold numL; rw [List.drop_take, numGo_min _ _ _ _ (by omega)]

/-- The offset: its seconds, and whether the whole list is one. -/
def offW (l : List Int) : Int × Bool :=
  if l = [90] ∨ l = [122] then (0, true)
  else if (ch l 0 = 43 ∨ ch l 0 = 45) ∧ (grp 58 true [2, 2] (l.drop 1)).2 = true ∧ (grp 58 true [2, 2] (l.drop 1)).1.getD 0 0 ≤ 23 ∧ (grp 58 true [2, 2] (l.drop 1)).1.getD 1 0 ≤ 59 then
    (if ch l 0 = 45 then -(((grp 58 true [2, 2] (l.drop 1)).1.getD 0 0 * 60 + (grp 58 true [2, 2] (l.drop 1)).1.getD 1 0) * 60) else ((grp 58 true [2, 2] (l.drop 1)).1.getD 0 0 * 60 + (grp 58 true [2, 2] (l.drop 1)).1.getD 1 0) * 60, true)
  else (0, false)
theorem drop_one (l : List Int) (i : Nat) (c : Int) : l.drop i = [c] ↔ (ch l i = c ∧ l.length = i + 1) := by
  constructor
  · intro h
    have h1 := congrArg List.length h
    rw [List.length_drop] at h1
    have h2 := ch_drop l i 0
    rw [h, Nat.add_zero] at h2
    simp at h1
    exact ⟨h2.symm, by omega⟩
  · rintro ⟨h1, h2⟩
    rw [drop_ch l i (by omega), h1, List.drop_eq_nil_of_le (by omega)]
theorem grp22_yes {sep : Int} {l : List Int} {i : Nat} (h : (grp sep true [2, 2] (l.drop i)).2 = true) : grp sep true [2, 2] (l.drop i) = ([numL l i 2, numL l (i + 3) 2], true) ∧ 0 ≤ numL l i 2 ∧ ch l (i + 2) = sep ∧ 0 ≤ numL l (i + 3) 2 ∧ l.length = i + 5 := by
  rw [grp_22] at h ⊢
  by_cases h1 : 0 ≤ numL l i 2
  · rw [if_pos h1] at h ⊢
    by_cases h2 : ch l (i + 2) = sep ∧ 0 ≤ numL l (i + 3) 2
    · rw [if_pos h2] at h ⊢
      have h3 : l.length ≤ i + 5 := of_decide_eq_true h
      have h4 : i + 5 ≤ l.length := by
        rcases Nat.lt_or_ge l.length (i + 5) with g | g
        · have := numL_short l (i + 3) 2 (by omega) (by omega); omega
        · exact g
      exact ⟨by rw [decide_eq_true h3], h1, h2.1, h2.2, by omega⟩
    · rw [if_neg h2] at h; cases h
  · rw [if_neg h1] at h; cases h
theorem offW_at (l : List Int) (i : Nat) : offW (l.drop i) = offV l i ∨ ((offW (l.drop i)).2 = false ∧ (offV l i).2 = false) := by
  rcases e1 : isL l i 90 122 with _ | _
  · have e2 := e1
    unfold isL at e2
    rw [Bool.or_eq_false_iff] at e2
    have n1 : ch l i ≠ 90 := by simpa using e2.1
    have n2 : ch l i ≠ 122 := by simpa using e2.2
    have nn : ¬ ((ch l i = 90 ∧ l.length = i + 1) ∨ (ch l i = 122 ∧ l.length = i + 1)) := by rintro (⟨h, _⟩ | ⟨h, _⟩) <;> contradiction
    by_cases hok : (ch l i = 43 ∨ ch l i = 45) ∧ (0 ≤ numL l (i + 1) 2 ∧ numL l (i + 1) 2 ≤ 23) ∧ ch l (i + 3) = 58 ∧ (0 ≤ numL l (i + 4) 2 ∧ numL l (i + 4) 2 ≤ 59) ∧ l.length = i + 6
    · obtain ⟨a, ⟨b1, b2⟩, c, ⟨d1, d2⟩, e⟩ := hok
      left
      have hG : grp 58 true [2, 2] (l.drop (i + 1)) = ([numL l (i + 1) 2, numL l (i + 4) 2], true) := by
        rw [grp_22, if_pos b1, if_pos ⟨c, d1⟩, decide_eq_true (p := l.length ≤ i + 1 + 5) (by omega)]
      have hW : offW (l.drop i) = (if ch l i = 45 then -((numL l (i + 1) 2 * 60 + numL l (i + 4) 2) * 60) else (numL l (i + 1) 2 * 60 + numL l (i + 4) 2) * 60, true) := by
        unfold offW
        simp only [drop_one, ch_drop, Nat.add_zero, List.drop_drop, hG]
        rw [if_neg nn, if_pos ⟨a, trivial, b2, d2⟩]; rfl
      have hs : isL l i 43 45 = true := by unfold isL; rcases a with a | a <;> rw [a] <;> rfl
      have h3 : isL l (i + 3) 58 58 = true := by unfold isL; rw [c]; rfl
      have hV : offV l i = (if ch l i == 45 then -(numL l (i + 1) 2 * 3600 + numL l (i + 4) 2 * 60) else numL l (i + 1) 2 * 3600 + numL l (i + 4) 2 * 60, true) := by
        unfold offV
        rw [e1, hs, h3, decide_eq_true (p := 0 ≤ numL l (i + 1) 2 ∧ _) ⟨b1, b2⟩, decide_eq_true (p := 0 ≤ numL l (i + 4) 2 ∧ _) ⟨d1, d2⟩, e]
        simp
      rw [hW, hV]
      congr 1
      by_cases hm : ch l i = 45
      · rw [if_pos hm, if_pos (by simp [hm])]; omega
      · rw [if_neg hm, if_neg (by simp [hm])]; omega
    · right
      constructor
      · unfold offW
        simp only [drop_one, ch_drop, Nat.add_zero, List.drop_drop]
        rw [if_neg nn]
        split
        · rename_i h
          obtain ⟨a, b, c, d⟩ := h
          obtain ⟨g1, g2, g3, g4, g5⟩ := grp22_yes b
          rw [g1] at c d
          exact absurd ⟨a, ⟨g2, c⟩, g3, ⟨g4, d⟩, g5⟩ hok
        · rfl
      · unfold offV
        rw [e1]
        simp only [Bool.false_eq_true, if_false]
        split
        · rename_i h
          simp only [Bool.and_eq_true, decide_eq_true_eq, beq_iff_eq, isL, Bool.or_eq_true, or_self] at h
          exact absurd ⟨h.1.1.1.1, h.1.1.1.2, h.1.1.2, h.1.2, h.2⟩ hok
        · rfl
  · have hc : ch l i = 90 ∨ ch l i = 122 := by simpa [isL] using e1
    have hV : offV l i = (0, l.length == i + 1) := by unfold offV; rw [e1]; rfl
    rw [hV]
    unfold offW
    simp only [drop_one, ch_drop, Nat.add_zero, List.drop_drop]
    by_cases hlen : l.length = i + 1
    · left
      rw [if_pos (by rcases hc with h | h <;> simp [h, hlen]), hlen]; simp
    · right
      constructor
      · rw [if_neg (by rintro (⟨_, h⟩ | ⟨_, h⟩) <;> contradiction), if_neg]
        rintro ⟨h | h, _⟩ <;> rcases hc with g | g <;> omega
      · simpa using hlen
/-- What follows the fraction. -/
def skipL (l : List Int) : List Int := if ch l 0 = 46 ∧ 0 < digs (l.drop 1) then l.drop (1 + digs (l.drop 1)) else l
theorem skip_at (l : List Int) : (offW (skipL (l.drop 19)) = offV l (fracV l).1 ∧ (fracV l).2 = true) ∨ ((offW (skipL (l.drop 19))).2 = false ∧ ((fracV l).2 && (offV l (fracV l).1).2) = false) := by
  unfold skipL fracV
  rw [ch_drop, List.drop_drop, List.drop_drop]
  rcases e1 : isL l 19 46 46 with _ | _
  · have hn : ch l 19 ≠ 46 := by simpa [isL] using e1
    rw [if_neg (fun h => hn h.1), if_neg (by decide)]
    rcases offW_at l 19 with h | h
    · exact .inl ⟨h, rfl⟩
    · exact .inr ⟨h.1, by rw [h.2]; rfl⟩
  · have hc : ch l 19 = 46 := by simpa [isL] using e1
    rw [if_pos rfl]
    by_cases hd : 0 < digs (l.drop 20)
    · rw [if_pos ⟨hc, hd⟩, show 19 + (1 + digs (l.drop 20)) = 20 + digs (l.drop 20) by omega]
      rcases offW_at l (20 + digs (l.drop 20)) with h | h
      · exact .inl ⟨h, decide_eq_true hd⟩
      · exact .inr ⟨h.1, by simp only; rw [h.2, Bool.and_false]⟩
    · rw [if_neg (fun h => hd h.2)]
      refine .inr ⟨?_, ?_⟩
      · unfold offW
        simp only [drop_one, ch_drop, Nat.add_zero, hc]
        rw [if_neg (by omega), if_neg (by omega)]
      · simp only; rw [decide_eq_false hd]; rfl
theorem secL_no {l : List Int} (h : numL l 0 4 < 0 ∨ numL l 5 2 < 0 ∨ numL l 8 2 < 0 ∨ numL l 11 2 < 0 ∨ numL l 14 2 < 0 ∨ numL l 17 2 < 0) : (secL l).2 = 3 := by
  unfold secL secV
  rw [if_neg]
  unfold okTime
  rw [Bool.and_eq_true, decide_eq_true_eq, okB_iff]
  rintro ⟨⟨a, b, c, d, e, f⟩, g⟩
  omega
theorem parse_nosec3 {l : List Int} (h : (secL l).2 ≠ 0) : parseL l = (0, 20) := by
  unfold parseL; rw [beq_eq_false_iff_ne.2 h]; simp
theorem sepsB_iff (l : List Int) : sepsB l = true ↔ ch l 4 = 45 ∧ ch l 7 = 45 ∧ (ch l 10 = 84 ∨ ch l 10 = 116) ∧ ch l 13 = 58 ∧ ch l 16 = 58 := by
  unfold sepsB isL
  simp only [Bool.and_eq_true, Bool.or_eq_true, beq_iff_eq, or_self]
  constructor
  · rintro ⟨⟨⟨⟨a, b⟩, c⟩, d⟩, e⟩; exact ⟨a, b, c, d, e⟩
  · rintro ⟨a, b, c, d, e⟩; exact ⟨⟨⟨⟨a, b⟩, c⟩, d⟩, e⟩
/-- The date's groups and the clock's. -/
theorem parse_noseps2 {l : List Int} (h : ¬ (ch l 4 = 45 ∧ ch l 7 = 45 ∧ (ch l 10 = 84 ∨ ch l 10 = 116) ∧ ch l 13 = 58 ∧ ch l 16 = 58)) : parseL l = (0, 20) :=
  parse_noseps (by rw [← Bool.not_eq_true, sepsB_iff]; exact h)
theorem date_at (l : List Int) : grp 45 true [4, 2, 2] (l.take 10) = if 0 ≤ numL l 0 4 then (if ch l 4 = 45 ∧ 0 ≤ numL l 5 2 then (if ch l 7 = 45 ∧ 0 ≤ numL l 8 2 then ([numL l 0 4, numL l 5 2, numL l 8 2], true) else ([numL l 0 4, numL l 5 2], false)) else ([numL l 0 4], false)) else ([], false) := by
  have h := grp_k22 45 4 (by omega) (l.take 10) 0
  rw [List.drop_zero] at h
  rw [h]
  simp only [Nat.zero_add, Nat.reduceAdd]
  rw [numL_take _ _ _ _ (by omega), numL_take _ _ _ _ (by omega), numL_take _ _ _ _ (by omega), ch_take _ _ _ (by omega), ch_take _ _ _ (by omega), decide_eq_true (p := (l.take 10).length ≤ 10) (by rw [List.length_take]; omega)]
theorem clock_at (l : List Int) : grp 58 true [2, 2, 2] ((l.take 19).drop 11) = if 0 ≤ numL l 11 2 then (if ch l 13 = 58 ∧ 0 ≤ numL l 14 2 then (if ch l 16 = 58 ∧ 0 ≤ numL l 17 2 then ([numL l 11 2, numL l 14 2, numL l 17 2], true) else ([numL l 11 2, numL l 14 2], false)) else ([numL l 11 2], false)) else ([], false) := by
  have h := grp_k22 58 2 (by omega) (l.take 19) 11
  rw [h]
  simp only [Nat.reduceAdd]
  rw [numL_take _ _ _ _ (by omega), numL_take _ _ _ _ (by omega), numL_take _ _ _ _ (by omega), ch_take _ _ _ (by omega), ch_take _ _ _ (by omega), decide_eq_true (p := (l.take 19).length ≤ 19) (by rw [List.length_take]; omega)]
theorem date_yes {l : List Int} (h : (grp 45 true [4, 2, 2] (l.take 10)).2 = true) : (grp 45 true [4, 2, 2] (l.take 10)).1 = [numL l 0 4, numL l 5 2, numL l 8 2] ∧ ch l 4 = 45 ∧ ch l 7 = 45 := by
  rw [date_at] at h ⊢
  split at h
  · rename_i h1; split at h
    · rename_i h2; split at h
      · rename_i h3; rw [if_pos h1, if_pos h2, if_pos h3]; exact ⟨rfl, h2.1, h3.1⟩
      · cases h
    · cases h
  · cases h
theorem clock_yes {l : List Int} (h : (grp 58 true [2, 2, 2] ((l.take 19).drop 11)).2 = true) : (grp 58 true [2, 2, 2] ((l.take 19).drop 11)).1 = [numL l 11 2, numL l 14 2, numL l 17 2] ∧ ch l 13 = 58 ∧ ch l 16 = 58 := by
  rw [clock_at] at h ⊢
  split at h
  · rename_i h1; split at h
    · rename_i h2; split at h
      · rename_i h3; rw [if_pos h1, if_pos h2, if_pos h3]; exact ⟨rfl, h2.1, h3.1⟩
      · cases h
    · cases h
  · cases h
theorem date_no {l : List Int} (h : (grp 45 true [4, 2, 2] (l.take 10)).2 = false) : parseL l = (0, 20) := by
  by_cases h1 : numL l 0 4 < 0 ∨ numL l 5 2 < 0 ∨ numL l 8 2 < 0 ∨ numL l 11 2 < 0 ∨ numL l 14 2 < 0 ∨ numL l 17 2 < 0
  · exact parse_nosec3 (by rw [secL_no h1]; decide)
  · refine parse_noseps2 fun h2 => ?_
    rw [date_at, if_pos (by omega), if_pos ⟨h2.1, by omega⟩, if_pos ⟨h2.2.1, by omega⟩] at h
    cases h
theorem clock_no {l : List Int} (h : (grp 58 true [2, 2, 2] ((l.take 19).drop 11)).2 = false) : parseL l = (0, 20) := by
  by_cases h1 : numL l 0 4 < 0 ∨ numL l 5 2 < 0 ∨ numL l 8 2 < 0 ∨ numL l 11 2 < 0 ∨ numL l 14 2 < 0 ∨ numL l 17 2 < 0
  · exact parse_nosec3 (by rw [secL_no h1]; decide)
  · refine parse_noseps2 fun h2 => ?_
    rw [clock_at, if_pos (by omega), if_pos ⟨h2.2.2.2.1, by omega⟩, if_pos ⟨h2.2.2.2.2, by omega⟩] at h
    cases h
theorem off_no {l : List Int} (h : (offW (skipL (l.drop 19))).2 = false) : parseL l = (0, 20) := by
  have h2 : ((fracV l).2 && (offV l (fracV l).1).2) = false := by
    rcases skip_at l with ⟨a, b⟩ | ⟨a, b⟩
    · rw [b, ← a, h]; rfl
    · exact b
  unfold parseL
  rw [if_neg]
  rw [Bool.and_assoc, h2]; simp
theorem sec_no {l : List Int} (h : (secL l).2 ≠ 0) : parseL l = (0, 20) := parse_nosec3 h
theorem all_yes {l : List Int} (h1 : (grp 45 true [4, 2, 2] (l.take 10)).2 = true) (h2 : (grp 58 true [2, 2, 2] ((l.take 19).drop 11)).2 = true) (h3 : ch l 10 = 84 ∨ ch l 10 = 116) (h4 : (offW (skipL (l.drop 19))).2 = true) (h5 : (secL l).2 = 0) :
    parseL l = if inTime ((secL l).1 - (offW (skipL (l.drop 19))).1) then ((secL l).1 - (offW (skipL (l.drop 19))).1, 0) else (0, 3) := by
  obtain ⟨_, a1, a2⟩ := date_yes h1
  obtain ⟨_, b1, b2⟩ := clock_yes h2
  have hs := (sepsB_iff l).2 ⟨a1, a2, h3, b1, b2⟩
  rcases skip_at l with ⟨a, b⟩ | ⟨a, b⟩
  · unfold parseL
    rw [if_pos (by rw [hs, h5, b, ← a, h4]; rfl), ← a]
  · rw [h4] at a; cases a
theorem short_no {l : List Int} (h : l.length < 19) : parseL l = (0, 20) :=
  parse_nosec (numL_short l 17 2 (by omega) (by omega))
theorem t_no {l : List Int} (h1 : ch l 10 ≠ 84) (h2 : ch l 10 ≠ 116) : parseL l = (0, 20) := parse_noseps2 (by omega)
theorem offW_bd (l : List Int) : -86340 ≤ (offW l).1 ∧ (offW l).1 ≤ 86340 := by
  unfold offW
  split
  · exact ⟨by decide, by decide⟩
  · split
    · rename_i h
      obtain ⟨_, _, c, d⟩ := h
      have hp : ∀ i, -1 ≤ (grp 58 true [2, 2] (l.drop 1)).1.getD i 0 := by
        intro i
        rw [grp_22]
        have a1 := numL_bd l 1 2
        have a2 := numL_bd l (1 + 3) 2
        split
        · split
          · match i with
            | 0 => exact a1.1
            | 1 => exact a2.1
            | _ + 2 => exact (by decide : (-1 : Int) ≤ 0)
          · match i with
            | 0 => exact a1.1
            | _ + 1 => exact (by decide : (-1 : Int) ≤ 0)
        · exact (by simp)
      have p0 := hp 0
      have p1 := hp 1
      simp only
      split <;> omega
    · exact ⟨by decide, by decide⟩
/-- strings.TrimLeft with the digits. -/
def digCut : ByteArray := ⟨#[48, 49, 50, 51, 52, 53, 54, 55, 56, 57]⟩
set_option maxRecDepth 100000 in
theorem digCut_has (c : UInt8) : digCut.data.toList.contains c = dgB (c.toNat : Int) := by
  have h : ∀ n : Fin 256, digCut.data.toList.contains (UInt8.ofNat n.val) = dgB (n.val : Int) := by decide
  have := h ⟨c.toNat, c.toNat_lt⟩
  simpa using this
theorem trim_digs : ∀ l : List UInt8, Lib.trimLeftS l digCut.data.toList = l.drop (digs (l.map fun c => (c.toNat : Int)))
  | [] => rfl
  | c :: r => by
    have := trim_digs r
    unfold Lib.trimLeftS at this ⊢
    rw [List.dropWhile_cons, List.map_cons, digs, digCut_has]
    split
    · rw [this, List.drop_succ_cons]
    · rfl
theorem trim_zs (s : ByteArray) : zs ⟨(Lib.trimLeftS s.data.toList digCut.data.toList).toArray⟩ = (zs s).drop (digs (zs s)) := by
  show List.map _ (Lib.trimLeftS s.data.toList digCut.data.toList) = _
  rw [trim_digs, List.map_drop]; rfl
end Go.Proofs.YtdbpkggjnmapiaaDoor
