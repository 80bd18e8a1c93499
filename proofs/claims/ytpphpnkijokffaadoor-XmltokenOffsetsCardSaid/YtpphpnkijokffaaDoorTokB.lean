/- Plain facts of layer 6's code: line ends by ReplaceAll, the first of some bytes, what stands before a stop, names by the rest of a document. Package xmltoken: the cursor's block; ended, rest, starts, skip, skipSpace, name: what each returns and leaves. -/
import Derived.Test.YtpphpnkijokffaaDoorTokLa
import Derived.Lib.ReplaceLaws
import Derived.Lib.IndexAny
import Derived.Test.YtpphpnkijokffaaDoorStrK
import Derived.BigQuiet
import Derived.Deep.RegionWith
import Derived.Deep.RegionHeld3
import Derived.WalkKit
import Derived.WalkSmall
import Derived.Test.YtpphpnkijokffaaDoorEscH
import Derived.Test.YtpphpnkijokffaaDoorTextF
namespace Go.Proofs.YtpphpnkijokffaaDoor
section
open Go.RowKit

/-! ### ReplaceAll -/
def rAll (old new s : List UInt8) : List UInt8 := Lib.replaceK old new (Lib.count s old) s
theorem rAll_hit (old new s : List UInt8) (ho : old ≠ []) (h : old.isPrefixOf s = true) : rAll old new s = new ++ rAll old new (s.drop old.length) := by
  have hi : Lib.index s old = ((0 : Nat) : Int) := by
    cases s with
    | nil =>
      cases old with
      | nil => exact absurd rfl ho
      | cons a b => simp [List.isPrefixOf] at h
    | cons c r => rw [Lib.index, if_pos h]; rfl
  unfold rAll
  rw [Lib.count_hit ho hi, Nat.add_comm, Lib.replaceK_hit old new _ s 0 hi]
  simp
theorem rAll_miss (old new : List UInt8) (c : UInt8) (r : List UInt8) (ho : old ≠ []) (h : old.isPrefixOf (c :: r) = false) : rAll old new (c :: r) = c :: rAll old new r := by
  have hge := Lib.index_ge r old
  by_cases hm : Lib.index r old = -1
  · have hm2 : Lib.index (c :: r) old = -1 := by rw [Lib.index, h, hm]; rfl
    unfold rAll
    rw [Lib.count_miss hm, Lib.count_miss hm2]; rfl
  · obtain ⟨i, hi⟩ := Int.eq_ofNat_of_zero_le (show 0 ≤ Lib.index r old by omega)
    have hb : (Lib.index r old == -1) = false := by simpa using hm
    have hi2 : Lib.index (c :: r) old = ((i + 1 : Nat) : Int) := by
      rw [Lib.index, h, hb, if_neg (by decide), if_neg (by decide), hi]; rfl
    have hd : (c :: r).drop (i + 1 + old.length) = r.drop (i + old.length) := by
      rw [show i + 1 + old.length = (i + old.length) + 1 by omega, List.drop_succ_cons]
    unfold rAll
    rw [Lib.count_hit ho hi, Lib.count_hit ho hi2, Nat.add_comm, Lib.replaceK_hit old new _ _ _ hi2, hd, Nat.add_comm 1, Lib.replaceK_hit old new _ _ _ hi, List.take_succ_cons, List.cons_append, List.cons_append]
theorem rAll_nil (old new : List UInt8) (ho : old ≠ []) : rAll old new [] = [] := by
  have hm : Lib.index [] old = -1 := by
    cases old with
    | nil => exact absurd rfl ho
    | cons a b => rfl
  unfold rAll
  rw [Lib.count_miss hm]; rfl
theorem replaceAll_eq (s old new : List UInt8) (h : (old == new) = false) : Lib.replaceAll s old new = rAll old new s := by
  unfold Lib.replaceAll Lib.replace Lib.replaceNum rAll
  rw [h, if_neg (by decide), if_pos (Or.inl (by decide))]
def mapB (c d : UInt8) (l : List UInt8) : List UInt8 := l.map fun x => if x = c then d else x
theorem rAll_one (c d : UInt8) : ∀ l : List UInt8, rAll [c] [d] l = mapB c d l
  | [] => rAll_nil _ _ (by simp)
  | x :: r => by
    by_cases h : x = c
    · rw [rAll_hit [c] [d] (x :: r) (by simp) (by rw [h]; simp [List.isPrefixOf])]
      simp only [List.length_cons, List.length_nil, Nat.zero_add, List.drop_succ_cons, List.drop_zero]
      rw [rAll_one c d r]
      simp [mapB, h]
    · have h2 : (c == x) = false := by simpa using fun e : c = x => h e.symm
      rw [rAll_miss _ _ _ _ (by simp) (by simp [List.isPrefixOf, h2]), rAll_one c d r]
      simp [mapB, h]
/-- Two bytes that end a line as one. -/
def crlf : List UInt8 → List UInt8
  | [] => []
  | c :: r => if c = 13 ∧ r.head? = some 10 then crlf r else c :: crlf r
theorem crlf_len : ∀ l : List UInt8, (crlf l).length ≤ l.length
  | [] => Nat.le_refl _
  | c :: r => by
    have := crlf_len r
    rw [crlf]
    split <;> simp only [List.length_cons] <;> omega
theorem rAll_crlf : ∀ (n : Nat) (l : List UInt8), l.length ≤ n → rAll [13, 10] [10] l = crlf l
  | _, [], _ => rAll_nil _ _ (by simp)
  | 0, _ :: _, h => absurd h (by simp)
  | n + 1, c :: r, h => by
    have hr : r.length ≤ n := by simpa using h
    by_cases hc : c = 13 ∧ r.head? = some 10
    · obtain ⟨rfl, hh⟩ := hc
      cases r with
      | nil => simp at hh
      | cons d t =>
        simp only [List.head?_cons, Option.some.injEq] at hh
        subst hh
        rw [rAll_hit [13, 10] [10] _ (by simp) (by simp [List.isPrefixOf])]
        simp only [List.length_cons, List.length_nil, Nat.zero_add, List.drop_succ_cons, List.drop_zero]
        rw [rAll_crlf n t (by simp at hr; omega), crlf, if_pos ⟨rfl, rfl⟩, crlf, if_neg (by simp)]
        rfl
    · have hp : ([13, 10] : List UInt8).isPrefixOf (c :: r) = false := by
        cases r with
        | nil => simp [List.isPrefixOf]
        | cons d t =>
          simp only [List.head?_cons, Option.some.injEq] at hc
          rw [Bool.eq_false_iff]
          intro e
          simp [List.isPrefixOf] at e
          exact hc ⟨e.1.symm, e.2.symm⟩
      rw [rAll_miss _ _ _ _ (by simp) hp, rAll_crlf n r hr, crlf, if_neg hc]
theorem lines_eq : ∀ l : List UInt8, mapB 13 10 (crlf l) = linesP l
  | [] => rfl
  | c :: r => by
    rw [crlf, linesP]
    by_cases hc : c = 13 ∧ r.head? = some 10
    · rw [if_pos hc, if_pos hc, lines_eq r]
    · rw [if_neg hc, if_neg hc, ← lines_eq r]; rfl
theorem linesP_13 : ∀ l : List UInt8, ∀ x ∈ linesP l, x ≠ 13
  | [], x, h => by simp [linesP] at h
  | c :: r, x, h => by
    rw [linesP] at h
    split at h
    · exact linesP_13 r x h
    · rcases List.mem_cons.1 h with h | h
      · rw [h]; split
        · decide
        · assumption
      · exact linesP_13 r x h
set_option maxRecDepth 100000 in
theorem sp_bytes : ∀ n : Fin 256, UInt8.ofNat n.val ≠ 13 → spOne (UInt8.ofNat n.val) = (if (if UInt8.ofNat n.val = 10 then (32 : UInt8) else UInt8.ofNat n.val) = 9 then 32 else (if UInt8.ofNat n.val = 10 then (32 : UInt8) else UInt8.ofNat n.val)) := by decide
theorem sp_byte (c : UInt8) (h : c ≠ 13) : spOne c = (if (if c = 10 then (32 : UInt8) else c) = 9 then 32 else (if c = 10 then (32 : UInt8) else c)) := by
  have := sp_bytes ⟨c.toNat, c.toNat_lt⟩
  simp only [UInt8.ofNat_toNat] at this
  exact this h
theorem spaces_eq (l : List UInt8) : mapB 9 32 (mapB 10 32 (linesP l)) = spMap true (linesP l) := by
  unfold mapB spMap
  rw [if_pos rfl, List.map_map]
  apply List.map_congr_left
  intro x hx
  exact (sp_byte x (linesP_13 l x hx)).symm

/-! ### the first of some bytes -/
theorem ia_cases (cs : List UInt8) : ∀ l : List UInt8, (Lib.indexAny l cs = -1 ∧ ∀ x ∈ l, cs.contains x = false) ∨ ∃ n : Nat, Lib.indexAny l cs = (n : Int) ∧ ∃ h : n < l.length, cs.contains l[n] = true ∧ ∀ x ∈ l.take n, cs.contains x = false
  | [] => .inl ⟨rfl, by simp⟩
  | b :: l => by
    rw [Lib.indexAny]
    cases hb : cs.contains b with
    | true => exact .inr ⟨0, by simp, by simp, by simpa using hb, by simp⟩
    | false =>
      rcases ia_cases cs l with ⟨h1, h2⟩ | ⟨n, h1, h2, h3, h4⟩
      · left
        rw [h1]
        refine ⟨rfl, fun x hx => ?_⟩
        rcases List.mem_cons.1 hx with rfl | hx
        · exact hb
        · exact h2 x hx
      · right
        have hm : (Lib.indexAny l cs == -1) = false := by rw [h1]; rw [beq_eq_false_iff_ne]; omega
        refine ⟨n + 1, ?_, by simpa using h2, by simpa using h3, fun x hx => ?_⟩
        · rw [if_neg (by decide), hm, if_neg (by decide), h1]; rfl
        · rw [List.take_succ_cons] at hx
          rcases List.mem_cons.1 hx with rfl | hx
          · exact hb
          · exact h4 x hx
/-- The first place from i on at which one of the stops stands, or the end. -/
def stopAt (S l : List UInt8) (i : Nat) : Nat := i + ((l.drop i).takeWhile fun c => !S.contains c).length
theorem stopAt_end (S l : List UInt8) (i : Nat) (h : l.length ≤ i) : stopAt S l i = i := by unfold stopAt; rw [List.drop_eq_nil_of_le h]; rfl
theorem stopAt_hit (S l : List UInt8) (i : Nat) (h : i < l.length) (hs : S.contains l[i] = true) : stopAt S l i = i := by
  unfold stopAt; rw [List.drop_eq_getElem_cons h, List.takeWhile_cons, hs]; rfl
theorem stopAt_miss (S l : List UInt8) (i : Nat) (h : i < l.length) (hs : S.contains l[i] = false) : stopAt S l i = stopAt S l (i + 1) := by
  unfold stopAt; rw [List.drop_eq_getElem_cons h, List.takeWhile_cons, hs]
  simp only [Bool.not_false, if_true, List.length_cons]; omega
theorem stopAt_le (S l : List UInt8) (i : Nat) (h : i ≤ l.length) : i ≤ stopAt S l i ∧ stopAt S l i ≤ l.length := by
  unfold stopAt
  have := (List.takeWhile_prefix (fun c => !S.contains c) (l := l.drop i)).length_le
  rw [List.length_drop] at this
  omega
theorem stopAt_run (S l : List UInt8) : ∀ (n i : Nat), i + n ≤ l.length → (∀ x ∈ (l.drop i).take n, S.contains x = false) → stopAt S l i = stopAt S l (i + n)
  | 0, _, _, _ => rfl
  | n + 1, i, h, hx => by
    have hi : i < l.length := by omega
    rw [List.drop_eq_getElem_cons hi, List.take_succ_cons] at hx
    rw [stopAt_miss S l i hi (hx _ (List.mem_cons_self ..)), stopAt_run S l n (i + 1) (by omega) (fun x h => hx x (List.mem_cons_of_mem _ h)), show i + 1 + n = i + (n + 1) by omega]
/-- Before the stop none stands, and at it one does, or the end. -/
theorem stopAt_spec (S l : List UInt8) : ∀ (d i : Nat), l.length - i ≤ d → (∀ q, i ≤ q → q < stopAt S l i → ∀ h : q < l.length, S.contains l[q] = false) ∧ (∀ h : stopAt S l i < l.length, S.contains l[stopAt S l i] = true)
  | 0, i, h => by
    rw [stopAt_end S l i (by omega)]
    exact ⟨fun q h1 h2 => by omega, fun h => by omega⟩
  | d + 1, i, h => by
    by_cases hi : i < l.length
    · cases hs : S.contains l[i] with
      | true =>
        rw [stopAt_hit S l i hi hs]
        exact ⟨fun q h1 h2 => by omega, fun _ => hs⟩
      | false =>
        obtain ⟨a, b⟩ := stopAt_spec S l d (i + 1) (by omega)
        rw [stopAt_miss S l i hi hs]
        refine ⟨fun q h1 h2 h3 => ?_, b⟩
        rcases Nat.eq_or_lt_of_le h1 with rfl | h1
        · exact hs
        · exact a q h1 h2 h3
    · rw [stopAt_end S l i (by omega)]
      exact ⟨fun q h1 h2 => by omega, fun h => by omega⟩
theorem stopAt_mid (S l : List UInt8) (i k : Nat) (hik : i ≤ k) (hk : k ≤ stopAt S l i) (hi : i ≤ l.length) : stopAt S l k = stopAt S l i := by
  obtain ⟨a, _⟩ := stopAt_spec S l _ i (Nat.le_refl _)
  have hl := stopAt_le S l i hi
  have := stopAt_run S l (k - i) i (by omega) (fun x hx => by
    obtain ⟨q, hq, rfl⟩ := List.mem_iff_getElem.1 hx
    rw [List.length_take, List.length_drop] at hq
    rw [List.getElem_take, List.getElem_drop]
    exact a _ (by omega) (by omega) (by omega))
  rw [show i + (k - i) = k by omega] at this
  exact this.symm
theorem stop_lt (s : ByteArray) : ∀ (d i : Nat), s.size - i ≤ d → i ≤ s.size → dataEnd s i = stopAt [60] s.data.toList i
  | d, i, h, hi => by
    have hsl : s.data.toList.length = s.size := by simp
    by_cases hlt : i < s.size
    · have hil : i < s.data.toList.length := by omega
      obtain ⟨x, hx⟩ : ∃ x, s.data.toList[i]'hil = x := ⟨_, rfl⟩
      have hgx : s.data.toList[i]? = some x := by rw [List.getElem?_eq_getElem hil, hx]
      by_cases h60 : x = 60
      · subst h60
        rw [stopAt_hit _ _ _ hil (by rw [hx]; decide)]
        unfold dataEnd
        rw [nextP_hit _ _ _ hil (hasP_yes1 hgx), if_neg (by omega), Int.toNat_natCast]
      · cases d with
        | zero => omega
        | succ d =>
          rw [stopAt_miss _ _ _ hil (by rw [hx]; simpa using h60), ← stop_lt s d (i + 1) (by omega) (by omega)]
          unfold dataEnd
          rw [nextP_miss _ _ _ hil (hasP_no [] hgx h60)]
    · rw [stopAt_end _ _ _ (by omega)]
      unfold dataEnd
      rw [nextP_end _ _ _ (by simp) (by simp; omega), if_pos (by decide)]
      omega
theorem quo_stop (l : List UInt8) (x : UInt8) (e : Nat) : quoAt l x e = stopAt [60, x] l e := by
  unfold quoAt stopAt
  have hf : (fun c : UInt8 => c != x && c != 60) = (fun c => !([60, x] : List UInt8).contains c) := by
    funext c
    simp only [List.contains_cons, List.contains_nil, Bool.or_false, bne, Bool.not_or]
    rw [Bool.and_comm]
  rw [hf]

/-! ### a reference ahead of a stop -/
def Stops (S : List UInt8) : Prop := ∀ c ∈ S, c = 60 ∨ c = 34 ∨ c = 39
theorem numR_bad (base : Int) (hb : base ≤ 16) (c : UInt8) (hc : digI (c.toNat : Int) = 16) : ∀ (l : List UInt8) (n : Int), c ∈ l → numR base l n = -1
  | [], _, h => by simp at h
  | d :: r, n, h => by
    rw [numR]
    rcases List.mem_cons.1 h with rfl | h
    · rw [if_pos (by omega)]
    · split
      · rfl
      · exact numR_bad base hb c hc r _ h
theorem numB_bad (base : Int) (hb : base ≤ 16) (c : UInt8) (hc : digI (c.toNat : Int) = 16) (l : List UInt8) (h : c ∈ l) : numB base l = -1 := by
  unfold numB
  split
  · rfl
  · exact numR_bad base hb c hc l 0 h
theorem named_bad (c : UInt8) (hc : c = 60 ∨ c = 34 ∨ c = 39) (l : List UInt8) (h : c ∈ l) : namedP l = -1 := by
  unfold namedP
  have hn : ∀ m : List UInt8, (60 : UInt8) ∉ m → (34 : UInt8) ∉ m → (39 : UInt8) ∉ m → l ≠ m := by
    rintro m h1 h2 h3 rfl
    rcases hc with rfl | rfl | rfl
    · exact h1 h
    · exact h2 h
    · exact h3 h
  rw [if_neg (hn _ (by decide) (by decide) (by decide)), if_neg (hn _ (by decide) (by decide) (by decide)), if_neg (hn _ (by decide) (by decide) (by decide)), if_neg (hn _ (by decide) (by decide) (by decide)), if_neg (hn _ (by decide) (by decide) (by decide))]
theorem refNum_bad (c : UInt8) (hc : c = 60 ∨ c = 34 ∨ c = 39) (l : List UInt8) (h : c ∈ l) : refNum l = -1 := by
  have hd : digI (c.toNat : Int) = 16 := by rcases hc with rfl | rfl | rfl <;> decide
  unfold refNum
  split
  · rename_i h1
    cases l with
    | nil => simp at h
    | cons a t =>
      have ha : a = 35 := h1.2
      have ht : c ∈ t := by
        rcases List.mem_cons.1 h with h | h
        · rw [ha] at h; rcases hc with rfl | rfl | rfl <;> exact absurd h (by decide)
        · exact h
      split
      · rename_i h2
        cases t with
        | nil => simp at ht
        | cons b u =>
          have hb : b = 120 := h2
          have hu : c ∈ u := by
            rcases List.mem_cons.1 ht with h | h
            · rw [hb] at h; rcases hc with rfl | rfl | rfl <;> exact absurd h (by decide)
            · exact h
          exact numB_bad 16 (by decide) c hd _ (by simpa using hu)
      · exact numB_bad 10 (by decide) c hd _ (by simpa using ht)
  · exact named_bad c hc l h
theorem tw_split (X : List UInt8) : ∀ n : Nat, (59 ∈ X.take n → tw (X.take n) = tw X ∧ (tw X).length < n) ∧ (59 ∉ X.take n → tw (X.take n) = X.take n ∧ ∀ c ∈ (X.drop n).head?, c ≠ 59 → 59 ∈ X → c ∈ tw X) := by
  induction X with
  | nil => intro n; simp [tw]
  | cons a X ih =>
    intro n
    cases n with
    | zero =>
      refine ⟨fun h => by simp at h, fun _ => ⟨rfl, fun c hc hne _ => ?_⟩⟩
      simp only [List.drop_zero, List.head?_cons, Option.mem_def, Option.some.injEq] at hc
      subst hc
      rw [tw_cons _ _ hne]
      exact List.mem_cons_self ..
    | succ n =>
      obtain ⟨h1, h2⟩ := ih n
      rw [List.take_succ_cons, List.drop_succ_cons]
      by_cases ha : a = 59
      · subst ha
        refine ⟨fun _ => ⟨by rw [tw_semi, tw_semi], by rw [tw_semi]; simp⟩, fun h => absurd (List.mem_cons_self ..) h⟩
      · rw [tw_cons _ _ ha, tw_cons _ _ ha]
        refine ⟨fun h => ?_, fun h => ?_⟩
        · obtain ⟨p, q⟩ := h1 (by rcases List.mem_cons.1 h with e | e; exact absurd e.symm ha; exact e)
          exact ⟨by rw [p], by rw [List.length_cons]; omega⟩
        · obtain ⟨p, q⟩ := h2 (fun e => h (List.mem_cons_of_mem _ e))
          refine ⟨by rw [p], fun c hc hne hm => List.mem_cons_of_mem _ (q c hc hne ?_)⟩
          rcases List.mem_cons.1 hm with e | e
          · exact absurd e.symm ha
          · exact e
theorem tw_none (X : List UInt8) (h : 59 ∉ X) : tw X = X := by
  have := (tw_split X X.length).2 (by rw [List.take_length]; exact h)
  rw [List.take_length] at this
  exact this.1
theorem refAt_take (S l : List UInt8) (hS : Stops S) (n j : Nat) (hn : n < j) (hj : j ≤ l.length) (hst : ∀ h : j < l.length, S.contains l[j] = true) : refAt (l.take j) n = refAt l n ∧ ((refAt l n).2.2 = 0 → (refAt l n).2.1 ≤ (j : Int)) := by
  have hX : (l.take j).drop (n + 1) = (l.drop (n + 1)).take (j - (n + 1)) := by rw [List.drop_take]
  have hlen : (l.take j).length = j := by rw [List.length_take]; omega
  have hXl : (l.drop (n + 1)).length = l.length - (n + 1) := List.length_drop
  obtain ⟨t1, t2⟩ := tw_split (l.drop (n + 1)) (j - (n + 1))
  unfold refAt
  rw [hX, hlen]
  by_cases h59 : 59 ∈ (l.drop (n + 1)).take (j - (n + 1))
  · obtain ⟨p, q⟩ := t1 h59
    have e1 : n + 1 + (tw (l.drop (n + 1))).length < j := by omega
    have e2 : n + 1 + (tw (l.drop (n + 1))).length < l.length := by omega
    rw [p, if_pos e1, if_pos e2]
    refine ⟨rfl, fun h => ?_⟩
    split at h
    · rename_i hc
      rw [if_pos hc]
      simp only; omega
    · simp at h
  · obtain ⟨p, q⟩ := t2 h59
    rw [p, if_neg (by rw [List.length_take, hXl]; omega)]
    have hbad : (if n + 1 + (tw (l.drop (n + 1))).length < l.length then (if isCharB (refNum (tw (l.drop (n + 1)))) then (refNum (tw (l.drop (n + 1))), ((n + 1 + (tw (l.drop (n + 1))).length + 1 : Nat) : Int), 0) else (0, 0, 12)) else (0, 0, 12) : Int × Int × Int) = (0, 0, 12) := by
      by_cases hjl : j < l.length
      · by_cases hm : 59 ∈ l.drop (n + 1)
        · have hc := hst hjl
          have hcs : l[j] ∈ S := by simpa using hc
          have hv := hS _ hcs
          have hh : ((l.drop (n + 1)).drop (j - (n + 1))).head? = some l[j] := by
            rw [List.drop_drop, show n + 1 + (j - (n + 1)) = j by omega, List.drop_eq_getElem_cons hjl]; rfl
          have hin := q l[j] hh (by rcases hv with e | e | e <;> rw [e] <;> decide) hm
          rw [refNum_bad _ hv _ hin]
          split <;> rfl
        · rw [tw_none _ hm, if_neg (by rw [hXl]; omega)]
      · have hjj : (l.drop (n + 1)).take (j - (n + 1)) = l.drop (n + 1) := List.take_of_length_le (by rw [hXl]; omega)
        rw [hjj] at h59
        rw [tw_none _ h59, if_neg (by rw [hXl]; omega)]
    rw [hbad]
    exact ⟨rfl, fun h => by simp at h⟩

/-! ### data: a step of the code's loop -/
theorem chunk_eq (l : List UInt8) : ∀ (d k j : Nat), d = j - k → k ≤ j → j ≤ l.length → (∀ q, k ≤ q → q < j → ∀ h : q < l.length, l[q] ≠ 38) → chunk l k j = (l.drop k).take (j - k)
  | 0, k, j, hd, hkj, hj, _ => by rw [show j = k by omega, chunk_end]; simp
  | d + 1, k, j, hd, hkj, hj, h => by
    have hk : k < l.length := by omega
    rw [chunk_at l k j (by omega) hk, if_neg (h k (by omega) (by omega) hk), chunk_eq l d (k + 1) j (by omega) (by omega) hj (fun q h1 h2 h3 => h q (by omega) h2 h3), List.drop_eq_getElem_cons hk, show j - k = (j - (k + 1)) + 1 by omega, List.take_succ_cons]
theorem chunk_mid (l : List UInt8) (n j : Nat) (hn : n < j) (hj : j ≤ l.length) (h38 : l.getD n 0 = 38) : ∀ (d k : Nat), d = n - k → k ≤ n → (∀ q, k ≤ q → q < n → ∀ h : q < l.length, l[q] ≠ 38) → chunk l k j = (l.drop k).take (n - k)
  | 0, k, hd, hkn, _ => by
    obtain rfl : k = n := by omega
    have hk : k < l.length := by omega
    have hg : l.getD k 0 = l[k] := by rw [List.getD_eq_getElem?_getD, List.getElem?_eq_getElem hk]; rfl
    rw [chunk_at l k j (by omega) hk, if_pos (by rw [← hg]; exact h38)]; simp
  | d + 1, k, hd, hkn, h => by
    have hk : k < l.length := by omega
    rw [chunk_at l k j (by omega) hk, if_neg (h k (by omega) (by omega) hk), chunk_mid l n j hn hj h38 d (k + 1) (by omega) (by omega) (fun q h1 h2 h3 => h q (by omega) h2 h3), List.drop_eq_getElem_cons hk, show n - k = (n - (k + 1)) + 1 by omega, List.take_succ_cons]
theorem spMap_nil (v : Bool) : spMap v [] = [] := by cases v <;> rfl
theorem data_end (l : List UInt8) (v : Bool) (k j f : Nat) (out : List UInt8) (hkj : k ≤ j) (hj : j ≤ l.length) (hf : j - k < f) (h : ∀ q, k ≤ q → q < j → ∀ h : q < l.length, l[q] ≠ 38) : contF l j v f k out = (out ++ spMap v (linesP ((l.drop k).take (j - k))), (j : Int), 0) := by
  obtain ⟨g, rfl⟩ : ∃ g, f = g + 1 := ⟨f - 1, by omega⟩
  rw [contF]
  by_cases hk : k < j
  · have hkl : k < l.length := by omega
    have hg : l.getD k 0 = l[k] := by rw [List.getD_eq_getElem?_getD, List.getElem?_eq_getElem hkl]; rfl
    rw [if_pos hk, if_neg (by rw [hg]; exact h k (Nat.le_refl _) hk hkl), chunk_eq l _ k j rfl hkj hj h]
    have hlen : ((l.drop k).take (j - k)).length = j - k := by rw [List.length_take, List.length_drop]; omega
    rw [hlen, show k + (j - k) = j by omega]
    obtain ⟨e, rfl⟩ : ∃ e, g = e + 1 := ⟨g - 1, by omega⟩
    rw [contF, if_neg (by omega)]
  · obtain rfl : k = j := by omega
    rw [if_neg hk, Nat.sub_self, List.take_zero, show linesP [] = [] from rfl, spMap_nil, List.append_nil]
/-- At an ampersand ahead of the stop: what the reference gives goes on behind it, or is an error there. -/
theorem data_amp (l : List UInt8) (v : Bool) (k n j f : Nat) (out : List UInt8) (hkn : k ≤ n) (hn : n < j) (hj : j ≤ l.length) (hf : j - k < f) (h : ∀ q, k ≤ q → q < n → ∀ h : q < l.length, l[q] ≠ 38) (h38 : l.getD n 0 = 38) :
    ∃ g, j - n ≤ g ∧ contF l j v f k out = if (refAt (l.take j) n).2.2 = 0 then contF l j v g (refAt (l.take j) n).2.1.toNat (out ++ spMap v (linesP ((l.drop k).take (n - k))) ++ eb (refAt (l.take j) n).1) else ([], (n : Int), (refAt (l.take j) n).2.2) := by
  obtain ⟨g, rfl⟩ : ∃ g, f = g + 1 := ⟨f - 1, by omega⟩
  by_cases hk : k < n
  · have hkl : k < l.length := by omega
    have hg : l.getD k 0 = l[k] := by rw [List.getD_eq_getElem?_getD, List.getElem?_eq_getElem hkl]; rfl
    have hlen : ((l.drop k).take (n - k)).length = n - k := by rw [List.length_take, List.length_drop]; omega
    obtain ⟨e, rfl⟩ : ∃ e, g = e + 1 := ⟨g - 1, by omega⟩
    refine ⟨e, by omega, ?_⟩
    rw [contF, if_pos (by omega), if_neg (by rw [hg]; exact h k (Nat.le_refl _) hk hkl), chunk_mid l n j hn hj h38 _ k rfl hkn h, hlen, show k + (n - k) = n by omega, contF, if_pos hn, if_pos h38]
  · obtain rfl : k = n := by omega
    refine ⟨g, by omega, ?_⟩
    rw [contF, if_pos hn, if_pos h38, Nat.sub_self, List.take_zero, show linesP [] = [] from rfl, spMap_nil, List.append_nil]

/-! ### names -/
theorem dec_cut (s t : ByteArray) (k : Nat) (h0 : (decP (s ++ t) k).2 ≠ 0) (hm : k + (decP (s ++ t) k).2 ≤ s.size) : decP s k = decP (s ++ t) k := by
  have hk : k < s.size := by omega
  have hz : (s ++ t).size = s.size + t.size := ByteArray.size_append
  have hex : ∃ j, 1 ≤ j ∧ j ≤ 4 ∧ k + j ≤ (s ++ t).size ∧ hitB (s ++ t) k j = true := by
    apply Classical.byContradiction
    intro hno
    apply h0
    rw [dec_miss (s ++ t) k (by omega) fun j h1 h2 h3 => by
      cases hb : hitB (s ++ t) k j
      · rfl
      · exact absurd ⟨j, h1, h2, h3, hb⟩ hno]
  obtain ⟨j, h1, h2, h3, hb⟩ := hex
  have a2 := dec_hit (s ++ t) k j h1 h2 h3 hb
  rw [a2.2] at hm
  have a1 := dec_hit s k j h1 h2 hm (by rw [← hit_left s t k j h1 hm]; exact hb)
  rw [accZ_left s t k j (j - 1) (by omega)] at a2
  apply Prod.ext
  · omega
  · rw [a1.2, a2.2]
/-- The length of the longest name at the beginning of a string, from a place on. -/
def nlF (t : ByteArray) : Nat → Nat → Nat
  | 0, k => k
  | f + 1, k => if k < t.size then (if (if k = 0 then qsB (decP t k).1 else qcB (decP t k).1) = true then nlF t f (k + (decP t k).2) else k) else k
def nlP (t : ByteArray) : Nat := nlF t (t.size + 1) 0
theorem ext_app (t : ByteArray) (j : Nat) : t.extract 0 j ++ t.extract j t.size = t := by
  apply kstr_ext
  rw [bapp, kext, kext, ofBytes_list, ofBytes_list, List.drop_zero, Nat.sub_zero, List.take_of_length_le (l := t.data.toList.drop j) (by rw [List.length_drop, bsl]; exact Nat.le_refl _), List.take_append_drop]
theorem ext_size (t : ByteArray) (j : Nat) (h : j ≤ t.size) : (t.extract 0 j).size = j := by rw [ByteArray.size_extract]; omega
/-- What is a name up to a place is one up to a later place by what stands between. -/
def NmInv (t : ByteArray) (k : Nat) : Prop := ∀ j, k ≤ j → j ≤ t.size → isQB (t.extract 0 j) = qnAt (t.extract 0 j) k
theorem dec_ext (t : ByteArray) (k j : Nat) (hj : j ≤ t.size) (h0 : (decP t k).2 ≠ 0) (hm : k + (decP t k).2 ≤ j) : decP (t.extract 0 j) k = decP t k := by
  have e := ext_app t j
  have hz := ext_size t j hj
  generalize t.extract 0 j = a at *
  generalize t.extract j t.size = b at *
  subst e
  exact dec_cut a b k h0 (by omega)
theorem nm_step (t : ByteArray) (k : Nat) (hk : k < t.size) (h : k = 0 ∨ (0 < k ∧ NmInv t k)) (h0 : (decP t k).2 ≠ 0) : isQB (t.extract 0 (k + (decP t k).2)) = (if k = 0 then qsB (decP t k).1 else qcB (decP t k).1) ∧ ((if k = 0 then qsB (decP t k).1 else qcB (decP t k).1) = true → NmInv t (k + (decP t k).2)) := by
  have hok := decP_ok t k hk
  obtain ⟨o1, o2, _, _⟩ := hok
  have main : ∀ j, k + (decP t k).2 ≤ j → j ≤ t.size → isQB (t.extract 0 j) = ((if k = 0 then qsB (decP t k).1 else qcB (decP t k).1) && qnAt (t.extract 0 j) (k + (decP t k).2)) := by
    intro j h1 h2
    have hd := dec_ext t k j h2 h0 h1
    have hz := ext_size t j h2
    rcases h with rfl | ⟨hp, hi⟩
    · rw [isQB_pos _ (by omega), hd, if_pos rfl, Nat.zero_add]
    · rw [hi j (by omega) h2, qnAt_eq _ _ (by omega), hd, if_neg (show ¬ k = 0 by omega)]
      cases qcB (decP t k).1 <;> rfl
  refine ⟨?_, fun hc j h1 h2 => by rw [main j h1 h2, hc, Bool.true_and]⟩
  rw [main _ (Nat.le_refl _) o1, qnAt_end _ _ (by rw [ext_size t _ o1]; exact Nat.le_refl _), Bool.and_true]
theorem nm_eq (t : ByteArray) : ∀ f k, k ≤ t.size → (k = 0 ∨ (0 < k ∧ NmInv t k)) → nmF t 0 f k = nlF t f k
  | 0, _, _, _ => rfl
  | f + 1, k, hk, h => by
    rw [nmF, nlF]
    by_cases hlt : k < t.size
    · rw [if_pos hlt, if_pos hlt]
      have hok := decP_ok t k hlt
      by_cases h0 : (decP t k).2 = 0
      · have hr := hok.2.2.2 h0
        have hc : (if k = 0 then qsB (decP t k).1 else qcB (decP t k).1) = false := by rw [hr]; split <;> decide
        rw [if_pos h0, hc, if_neg (by decide)]
      · obtain ⟨s1, s2⟩ := nm_step t k hlt h h0
        rw [if_neg h0, s1]
        by_cases hc : (if k = 0 then qsB (decP t k).1 else qcB (decP t k).1) = true
        · rw [if_pos hc, if_pos hc]
          exact nm_eq t f _ hok.1 (.inr ⟨by omega, s2 hc⟩)
        · rw [if_neg hc, if_neg hc]
    · rw [if_neg hlt, if_neg hlt]
theorem nmP_zero (t : ByteArray) : nmP t 0 = nlP t := nm_eq t _ 0 (Nat.zero_le _) (.inl rfl)
/-- The offset behind a name by the rest of the document. -/
theorem nmP_rest (s : ByteArray) (i : Nat) (hi : i ≤ s.size) : nmP s i = i + nlP (ofBytes (s.data.toList.drop i)) := by
  have e := ext_app s i
  have hz := ext_size s i hi
  have hb : s.extract i s.size = ofBytes (s.data.toList.drop i) := by rw [kext, List.take_of_length_le (by rw [List.length_drop, bsl]; exact Nat.le_refl _)]
  rw [hb] at e
  rw [← nmP_zero]
  generalize ofBytes (s.data.toList.drop i) = b at *
  generalize s.extract 0 i = a at *
  subst e
  have := nmP_right a b 0
  rw [hz, Nat.add_zero] at this
  exact this
theorem nlF_le (t : ByteArray) : ∀ f k, k ≤ t.size → k ≤ nlF t f k ∧ nlF t f k ≤ t.size
  | 0, k, h => ⟨Nat.le_refl _, h⟩
  | f + 1, k, h => by
    rw [nlF]
    by_cases hk : k < t.size
    · have hok := decP_ok t k hk
      rw [if_pos hk]
      by_cases hc : (if k = 0 then qsB (decP t k).1 else qcB (decP t k).1) = true
      · rw [if_pos hc]
        have := nlF_le t f (k + (decP t k).2) hok.1
        omega
      · rw [if_neg hc]; exact ⟨Nat.le_refl _, h⟩
    · rw [if_neg hk]; exact ⟨Nat.le_refl _, h⟩
theorem nlP_le (t : ByteArray) : nlP t ≤ t.size := (nlF_le t _ 0 (Nat.zero_le _)).2
/-- A string is a name if it is the longest name at its own beginning. -/
theorem isQB_nl (t : ByteArray) : isQB t = (decide (0 < t.size) && decide (nlP t = t.size)) := by
  have key : ∀ f k, t.size - k < f → k ≤ t.size → 0 < k → qnAt t k = decide (nlF t f k = t.size) := by
    intro f
    induction f with
    | zero => intro k h; omega
    | succ f ih =>
      intro k hf hk h0
      rw [nlF]
      by_cases hlt : k < t.size
      · have hok := decP_ok t k hlt
        rw [if_pos hlt, qnAt_eq t k hlt, if_neg (show ¬ k = 0 by omega)]
        by_cases hc : qcB (decP t k).1 = true
        · have hp := pos_of_qn t k hlt hc
          rw [if_pos hc, if_pos hc]
          exact ih _ (by omega) hok.1 (by omega)
        · rw [if_neg hc, if_neg hc, decide_eq_false (by omega)]
      · rw [if_neg hlt, qnAt_end t k (by omega), decide_eq_true (by omega)]
  by_cases h0 : 0 < t.size
  · have hok := decP_ok t 0 h0
    rw [isQB_pos t h0, decide_eq_true h0, Bool.true_and]
    unfold nlP
    rw [nlF, if_pos h0, if_pos rfl]
    by_cases hc : qsB (decP t 0).1 = true
    · have hp := pos_of_qn t 0 h0 (by
        cases h : qcB (decP t 0).1 with
        | true => rfl
        | false => rw [qs_char _ h] at hc; exact absurd hc (by decide))
      rw [hc, Bool.true_and, if_pos rfl, Nat.zero_add]
      exact key _ _ (by omega) (by omega) hp
    · rw [if_neg hc, decide_eq_false (by omega)]
      simp only [Bool.not_eq_true] at hc
      rw [hc]; rfl
  · unfold isQB
    rw [decide_eq_false h0]; rfl
/-- A prefix of the rest is a string that stands at the place. -/
theorem pre_has (l t : List UInt8) (i : Nat) : t.isPrefixOf (l.drop i) = hasP l (i : Int) t := by
  unfold hasP
  rw [Int.toNat_natCast, decide_eq_true (by omega), Bool.true_and]
end
section
open Go.RowKit

/-! ### worlds that differ in one block -/
/-- Every block but one is as it was. -/
structure Keep (p : Nat) (w w' : World) : Prop where
  os : w'.os = w.os
  tape : w'.tape = w.tape
  output : w'.output = w.output
  size : w.heap.size ≤ w'.heap.size
  block : ∀ k, k < w.heap.size → k ≠ p → w'.heap[k]? = w.heap[k]?
theorem Keep.refl (p : Nat) (w : World) : Keep p w w := ⟨rfl, rfl, rfl, Nat.le_refl _, fun _ _ _ => rfl⟩
theorem Keep.trans {p : Nat} {a b c : World} (h : Keep p a b) (k : Keep p b c) : Keep p a c :=
  ⟨k.os.trans h.os, k.tape.trans h.tape, k.output.trans h.output, Nat.le_trans h.size k.size, fun i hi hp => (k.block i (Nat.lt_of_lt_of_le hi h.size) hp).trans (h.block i hi hp)⟩
theorem Keep.of {p : Nat} {w w' : World} (h : Below w.heap.size w w') : Keep p w w' := ⟨h.os, h.tape, h.output, h.size, fun k hk _ => h.block k hk⟩
theorem Keep.more {p : Nat} {a b c : World} (h : Keep p a b) (k : Below b.heap.size b c) : Keep p a c := h.trans (Keep.of k)
theorem Keep.set {p : Nat} {a w : World} (h : Keep p a w) (o : Nat) (u : Value) : Keep p a (w.setCell ⟨p, o, none⟩ u) :=
  h.trans ⟨rfl, rfl, rfl, by simp [World.setCell], fun k _ hp => Below.heap_setCell _ _ _ _ hp⟩
theorem Keep.alloc {p : Nat} {a w : World} (h : Keep p a w) (o : Obj) : Keep p a (w.alloc o) := h.more ((Below.refl _ _).alloc (Nat.le_refl _) o)
theorem Keep.drew {p : Nat} {a w : World} (h : Keep p a w) : Keep p a w.drew := h.trans ⟨rfl, rfl, rfl, Nat.le_refl _, fun _ _ _ => rfl⟩
theorem Keep.drewN {p : Nat} {a w : World} (h : Keep p a w) (n : Nat) : Keep p a (w.drewN n) := h.trans ⟨rfl, rfl, rfl, Nat.le_refl _, fun _ _ _ => rfl⟩
/-- A store into a block that the first world does not have. -/
theorem Keep.own {p : Nat} {a w : World} (h : Keep p a w) {q : Addr} (hq : a.heap.size ≤ q.block) (u : Value) : Keep p a (w.setCell q u) :=
  ⟨h.os, h.tape, h.output, by have := h.size; simp [World.setCell]; exact this, fun k hk hp => (Below.heap_setCell _ _ _ _ (by omega)).trans (h.block k hk hp)⟩
theorem Keep.grown {p : Nat} {a w w' : World} {row : Option Nat} (h : Keep p a w) (hg : w.grownBy w' row) (hr : ∀ k, row = some k → a.heap.size ≤ k) : Keep p a w' :=
  ⟨hg.os.trans h.os, hg.tape.trans h.tape, hg.output.trans h.output, Nat.le_trans h.size hg.size, fun k hk hp => (hg.block k (Nat.lt_of_lt_of_le hk h.size) (fun e => by have := hr k e.symm; omega)).trans (h.block k hk hp)⟩
theorem Keep.below {B p : Nat} {a w w' : World} (h : Keep p w w') (hb : Below B a w) (hp : B ≤ p) (hB : B ≤ w.heap.size) : Below B a w' :=
  hb.trans ⟨h.os, h.tape, h.output, h.size, fun k hk => h.block k (by omega) (by omega)⟩
theorem Keep.cell {p : Nat} {w w' : World} (h : Keep p w w') {a : Addr} (ha : a.block < w.heap.size) (hp : a.block ≠ p) : w'.cell? a = w.cell? a := World.cell?_of_block (w := w) (h.block _ ha hp)
theorem Keep.row {p B : Nat} {e : TypeId} {k n : Nat} {v : Value} {xs : List Value} {w w' : World} (h : Keep p w w') (hr : w.ownsRow B e k v n xs) (hp : p < B) : w'.ownsRow B e k v n xs := by
  obtain ⟨h1, h2⟩ := hr
  refine ⟨h1, ?_⟩
  rcases h2 with h2 | ⟨g, cap, cur, hv, hg, hh, r⟩
  · exact .inl h2
  · exact .inr ⟨g, cap, cur, hv, hg, (h.block g (Array.getElem?_eq_some_iff.1 hh).1 (by omega)).trans hh, r⟩
/-- A cursor: its string and its place. -/
def Cur (w : World) (p : Nat) (s : ByteArray) (k : Int) : Prop := w.heap[p]? = some (.cells #[.string s, .int .i64 k] 42 (0, 0))
theorem Cur.lt {w : World} {p : Nat} {s : ByteArray} {k : Int} (h : Cur w p s k) : p < w.heap.size := (Array.getElem?_eq_some_iff.1 h).1
theorem Cur.c0 {w : World} {p : Nat} {s : ByteArray} {k : Int} (h : Cur w p s k) : w.cell? ⟨p, 0, none⟩ = some (.string s) := by rw [cell_of_row w p _ _ _ _ h]; rfl
theorem Cur.c1 {w : World} {p : Nat} {s : ByteArray} {k : Int} (h : Cur w p s k) : w.cell? ⟨p, 1, none⟩ = some (.int .i64 k) := by rw [cell_of_row w p _ _ _ _ h]; rfl
theorem Cur.f1 {w : World} {p : Nat} {s : ByteArray} {k : Int} (h : Cur w p s k) : w.frozen? ⟨p, 1, none⟩ = false := frozen_of_row w p 1 _ _ h
theorem Cur.keep {w w' : World} {p : Nat} {s : ByteArray} {k : Int} (h : Cur w p s k) (hb : Below w.heap.size w w') : Cur w' p s k := (hb.block p h.lt).trans h
theorem Cur.set {w : World} {p : Nat} {s : ByteArray} {k : Int} (h : Cur w p s k) (k' : Int) : Cur (w.setCell ⟨p, 1, none⟩ (.int .i64 k')) p s k' := by
  unfold Cur at *
  rw [heap_setCell_same w p 1 _ _ _ h]
  rfl
theorem Cur.own {w : World} {p : Nat} {s : ByteArray} {k : Int} (h : Cur w p s k) {q : Addr} (hq : q.block ≠ p) (u : Value) : Cur (w.setCell q u) p s k := (Below.heap_setCell w q u p (fun e => hq e.symm)).trans h
theorem Cur.new (w : World) (s : ByteArray) : Cur (w.alloc (.cells #[.string s, .int .i64 0] 42)) w.heap.size s 0 := heap_alloc_new w _

/-! ### ended, rest, starts -/
theorem kret {v v' : Value} (h : v = v') : Ending.returned v = .returned v' := by rw [h]
set_option maxRecDepth 100000 in
set_option maxHeartbeats 4000000 in
theorem cur_endedN (p : Nat) (s : ByteArray) (k : Int) (w : World) (hC : Cur w p s k) :
    Calls Tryd.prog 17 #[.pointer (some ⟨p, 0, none⟩)] w fun e w' => e = .returned (.bool (k == (s.size : Int))) ∧ ∃ n, w' = w.drewN n := by
  have c0 := hC.c0
  have c1 := hC.c1
  clear hC
  go_enter Tryd.func17, Tryd.ntmps17
  go_wp2
  go_quiet (fail)
  go_wp2
  go_ret
  exact ⟨rfl, _, rfl⟩
theorem cur_ended (p : Nat) (s : ByteArray) (k : Int) (w : World) (hC : Cur w p s k) :
    Calls Tryd.prog 17 #[.pointer (some ⟨p, 0, none⟩)] w fun e w' => e = .returned (.bool (k == (s.size : Int))) ∧ Below w.heap.size w w' :=
  (cur_endedN p s k w hC).mono fun _ _ ⟨h, n, hn⟩ => ⟨h, hn ▸ below_drewN (Below.refl _ _) n⟩
set_option maxRecDepth 100000 in
set_option maxHeartbeats 4000000 in
theorem cur_rest (p : Nat) (s : ByteArray) (k : Nat) (w : World) (hC : Cur w p s k) (hk : k ≤ s.size) :
    Calls Tryd.prog 37 #[.pointer (some ⟨p, 0, none⟩)] w fun e w' => e = .returned (.string (ofBytes (s.data.toList.drop k))) ∧ Below w.heap.size w w' := by
  have c0 := hC.c0
  have c1 := hC.c1
  have hsl : s.data.toList.length = s.size := by simp
  have hsf : ∀ wx, _ := fun wx => slice_from s (k : Int) (by omega) (by omega) wx
  rw [Int.toNat_natCast, kext, List.take_of_length_le (by rw [List.length_drop]; omega)] at hsf
  clear hC hsl
  generalize ofBytes (s.data.toList.drop k) = R at *
  go_enter Tryd.func37, Tryd.ntmps37
  go_wp2
  go_quiet (fail)
  go_wp2
  go_ret
  exact ⟨rfl, below_drewN (Below.refl _ _) _⟩
set_option maxRecDepth 100000 in
set_option maxHeartbeats 4000000 in
theorem cur_starts (p : Nat) (s t : ByteArray) (k : Nat) (b : Bool) (w : World) (hC : Cur w p s k) (hk : k ≤ s.size) (hb : hasP s.data.toList (k : Int) t.data.toList = b) :
    Calls Tryd.prog 27 #[.pointer (some ⟨p, 0, none⟩), .string t] w fun e w' => e = .returned (.bool b) ∧ Below w.heap.size w w' := by
  have cR := cur_rest p s k w hC hk
  have cH : ∀ wx, _ := fun wx => esc_HasPrefix (ofBytes (s.data.toList.drop k)) t b wx (by rw [ofBytes_list, pre_has]; exact hb)
  clear hC hb
  generalize ofBytes (s.data.toList.drop k) = R at *
  go_enter Tryd.func27, Tryd.ntmps27
  go_wp2_with fail
  refine cR.mono ?_
  rintro e w1 ⟨rfl, b1⟩
  (go_wp2_with fail); (refine (cH _).mono ?_); (rintro e w' ⟨rfl, rfl⟩)
  go_wp2
  go_ret
  exact ⟨rfl, b1⟩
set_option maxRecDepth 100000 in
set_option maxHeartbeats 4000000 in
theorem cur_skip_no (p : Nat) (s t : ByteArray) (k : Nat) (w : World) (hC : Cur w p s k) (hk : k ≤ s.size) (hb : hasP s.data.toList (k : Int) t.data.toList = false) :
    Calls Tryd.prog 16 #[.pointer (some ⟨p, 0, none⟩), .string t] w fun e w' => e = .returned (.bool false) ∧ Below w.heap.size w w' := by
  have cS := cur_starts p s t k false w hC hk hb
  clear hC hb
  go_enter Tryd.func16, Tryd.ntmps16
  go_wp2_with fail
  refine cS.mono ?_
  rintro e w1 ⟨rfl, b1⟩
  go_wp2
  go_ret
  exact ⟨rfl, b1⟩
set_option maxRecDepth 100000 in
set_option maxHeartbeats 4000000 in
theorem cur_skip_yes (p : Nat) (s t : ByteArray) (k : Nat) (w : World) (hC : Cur w p s k) (hk : k ≤ s.size) (hs : s.size ≤ 1000000) (ht : t.size ≤ 1000000) (hb : hasP s.data.toList (k : Int) t.data.toList = true) :
    Calls Tryd.prog 16 #[.pointer (some ⟨p, 0, none⟩), .string t] w fun e w' => e = .returned (.bool true) ∧ Cur w' p s ((k : Int) + (t.size : Int)) ∧ Keep p w w' := by
  have cS := cur_starts p s t k true w hC hk hb
  have hk6 : (k : Int) ≤ 1000000 := by omega
  have ht6 : (t.size : Int) ≤ 1000000 := by omega
  clear hb
  go_enter Tryd.func16, Tryd.ntmps16
  go_wp2_with fail
  refine cS.mono ?_
  rintro e w1 ⟨rfl, b1⟩
  have hC1 := hC.keep b1
  have hC2 := hC1.set ((k : Int) + (t.size : Int))
  have hK2 : Keep p w (w1.setCell ⟨p, 1, none⟩ (.int .i64 ((k : Int) + (t.size : Int)))) := (Keep.of b1).set 1 _
  have c1 := hC1.c1
  have f1 := hC1.f1
  have H2 := Lib.hid hC2
  have K2 := Lib.hid hK2
  clear hC hC1 hC2 hK2 b1 cS
  go_wp2
  go_ret
  exact ⟨rfl, H2.out, K2.out⟩
set_option maxRecDepth 100000 in
set_option maxHeartbeats 8000000 in
theorem cur_skipSpace (p : Nat) (s : ByteArray) (k : Nat) (w : World) (hC : Cur w p s k) (hk : k ≤ s.size) (hs : s.size ≤ 1000000) :
    Calls Tryd.prog 56 #[.pointer (some ⟨p, 0, none⟩)] w fun e w' => e = .returned (.bool (decide (k < spP s.data.toList k))) ∧ Cur w' p s (spP s.data.toList k : Nat) ∧ Keep p w w' := by
  have hsl : s.data.toList.length = s.size := by simp
  have HSL := Lib.hid hsl
  have c1 := hC.c1
  clear hsl
  go_enter Tryd.func56, Tryd.ntmps56
  go_wp2
  go_loopw [] (fun wr => ∃ j : Nat, k ≤ j ∧ j ≤ s.size ∧ spP s.data.toList k = spP s.data.toList j ∧ Cur wr p s j ∧ Keep p w wr) (fun wr => s.size - (intOf ((wr.cell? ⟨p, 1, none⟩).getD (.bool false))).toNat)
  case atStart => exact ⟨k, Nat.le_refl _, hk, rfl, hC, Keep.refl _ _⟩
  case round =>
    obtain ⟨j, hkj, hj, hrel, hJ, hK⟩ := hrel
    clear c1
    have cE := cur_ended p s j wr.drew hJ
    have c0 := hJ.c0
    have c1 := hJ.c1
    have hpz := hJ.lt
    have M1 := Lib.hid c1
    by_cases hlt : j < s.size
    · have hjl : j < s.data.toList.length := by have := HSL.out; omega
      obtain ⟨x, hx⟩ : ∃ x, s[j]'hlt = x := ⟨_, rfl⟩
      have hxl : s.data.toList[j]'hjl = x := by rw [← hx]; simp [ByteArray.getElem_eq_getElem_data]
      have cI : ∀ wx, _ := fun wx => text_IsSpace (x.toNat : Int) wx
      have hne : ((j : Int) == (s.size : Int)) = false := by simp; omega
      rw [hne] at cE
      have hjz : (j : Int) < (s.size : Int) := by omega
      rcases hsp : spB x with _ | _
      · have hv := hrel.trans (spP_no s.data.toList j hjl (by rw [hxl]; exact hsp))
        rw [show isSpaceB (x.toNat : Int) = false from hsp] at cI
        have HV := Lib.hid hv
        have HJ := Lib.hid hJ
        clear hv hrel hsp hJ hxl hne
        go_wp2
        go_region_held3 (fun w' => w'.cell? ⟨p, 0, none⟩ = some (.string s) ∧ w'.cell? ⟨p, 1, none⟩ = some (.int .i64 (j : Int))) (first | exact ⟨c0, c1⟩ | exact hS5) (first | (go_at_call 17; refine cE.mono ?_; rintro e w5 ⟨rfl, b5⟩; have hS5 : w5.cell? ⟨p, 0, none⟩ = some (.string s) ∧ w5.cell? ⟨p, 1, none⟩ = some (.int .i64 (j : Int)) := ⟨(b5.cell (p := ⟨p, 0, none⟩) hpz).trans c0, (b5.cell (p := ⟨p, 1, none⟩) hpz).trans c1⟩) | (go_at_call 73; refine (cI _).mono ?_; rintro e w' ⟨rfl, rfl⟩))
        have hJ5 : Cur w5 p s (j : Int) := Cur.keep (w := wr.drew) HJ.out b5
        have hK5 : Keep p w w5 := hK.drew.more b5
        clear hS5 cE c0 c1
        have g1 := hJ5.c1
        have H5 := Lib.hid hJ5
        have K5 := Lib.hid hK5
        clear hJ5 hK5
        go_wp2
        go_ret
        exact ⟨kretB (by rw [HV.out]), by rw [HV.out]; exact H5.out, K5.out⟩
      · have hv := hrel.trans (spP_yes s.data.toList j hjl (by rw [hxl]; exact hsp))
        rw [show isSpaceB (x.toNat : Int) = true from hsp] at cI
        have HV := Lib.hid hv
        have HJ := Lib.hid hJ
        clear hv hrel hsp hJ hxl hne
        go_wp2
        go_region_held3 (fun w' => w'.cell? ⟨p, 0, none⟩ = some (.string s) ∧ w'.cell? ⟨p, 1, none⟩ = some (.int .i64 (j : Int))) (first | exact ⟨c0, c1⟩ | exact hS5) (first | (go_at_call 17; refine cE.mono ?_; rintro e w5 ⟨rfl, b5⟩; have hS5 : w5.cell? ⟨p, 0, none⟩ = some (.string s) ∧ w5.cell? ⟨p, 1, none⟩ = some (.int .i64 (j : Int)) := ⟨(b5.cell (p := ⟨p, 0, none⟩) hpz).trans c0, (b5.cell (p := ⟨p, 1, none⟩) hpz).trans c1⟩) | (go_at_call 73; refine (cI _).mono ?_; rintro e w' ⟨rfl, rfl⟩))
        have hJ5 : Cur w5 p s (j : Int) := Cur.keep (w := wr.drew) HJ.out b5
        have hK5 : Keep p w w5 := hK.drew.more b5
        clear hS5 cE c0 c1
        have g1 := hJ5.c1
        have gf := hJ5.f1
        have H5 := Lib.hid (hJ5.set ((j : Int) + 1))
        have K5 := Lib.hid (hK5.set 1 (.int .i64 ((j : Int) + 1)))
        clear hJ5 hK5
        go_wp2
        go_roundw
        case rel => exact ⟨j + 1, by omega, by omega, HV.out, H5.out, K5.out⟩
        case measure => rw [(Cur.c1 H5.out), M1.out]; simp [intOf]; omega
    · obtain rfl : j = s.size := by omega
      have hv := hrel.trans (spP_end s.data.toList s.size (by have := HSL.out; omega))
      have HV := Lib.hid hv
      have HJ := Lib.hid hJ
      have cN : ∀ wx, Cur wx p s (s.size : Int) → _ := fun wx h => cur_endedN p s (s.size : Int) wx h
      rw [show ((s.size : Int) == (s.size : Int)) = true by simp] at cN
      clear hv hrel hJ
      go_wp2
      go_quiet (first | (go_at_call 17; refine Calls.quiet_of (cN _ ?_); exact HJ.out))
      have hJ5 : Cur (wr.drewN nq) p s (s.size : Int) := HJ.out
      have hK5 : Keep p w (wr.drewN nq) := hK.drewN nq
      clear cE c0 c1
      have g1 := hJ5.c1
      have H5 := Lib.hid hJ5
      have K5 := Lib.hid hK5
      clear hJ5 hK5
      go_wp2
      go_ret
      exact ⟨kretB (by rw [HV.out]), by rw [HV.out]; exact H5.out, K5.out⟩
end
end Go.Proofs.YtpphpnkijokffaaDoor
