/- Plain facts of layer 4: white space put in the place of the spaces is read alike; upper and lower case are read alike. -/
import Derived.Test.YtdbpkggjnmapiaaDoorRfcF
import Derived.Lib.Replace
import Derived.Lib.Case
namespace Go.Proofs.YtdbpkggjnmapiaaDoor
open Go.RowKit

/-- Each space written as g. -/
def respace (g l : List UInt8) : List UInt8 := l.flatMap fun c => if c = 32 then g else [c]
theorem respace_space (g r : List UInt8) : respace g (32 :: r) = g ++ respace g r := by unfold respace; rw [List.flatMap_cons, if_pos rfl]
theorem respace_other (g r : List UInt8) (c : UInt8) (h : c ≠ 32) : respace g (c :: r) = c :: respace g r := by unfold respace; rw [List.flatMap_cons, if_neg h]; rfl
theorem respace_self : ∀ l : List UInt8, respace [32] l = l
  | [] => rfl
  | c :: r => by
    by_cases h : c = 32
    · rw [h, respace_space, respace_self r]; rfl
    · rw [respace_other _ _ _ h, respace_self r]
theorem replaceK_other (g : List UInt8) (c : UInt8) (h : c ≠ 32) : ∀ (k : Nat) (s : List UInt8), Lib.replaceK [32] g k (c :: s) = c :: Lib.replaceK [32] g k s
  | 0, _ => rfl
  | k + 1, s => by
    have hi : Lib.index (c :: s) [32] = if Lib.index s [32] == -1 then -1 else Lib.index s [32] + 1 := by
      rw [Lib.index, if_neg]
      simp [List.isPrefixOf, Ne.symm h]
    have hge := Lib.index_ge s [32]
    rw [Lib.replaceK, Lib.replaceK, hi]
    by_cases hm : Lib.index s [32] = -1
    · rw [hm]; rfl
    · have h1 : (Lib.index s [32] == -1) = false := by simpa using hm
      rw [h1]
      simp only [Bool.false_eq_true, if_false]
      have h2 : (Lib.index s [32] + 1 == -1) = false := by simp; omega
      rw [h2]
      simp only [Bool.false_eq_true, if_false]
      rw [show (Lib.index s [32] + 1).toNat = (Lib.index s [32]).toNat + 1 by omega, show (Lib.index s [32]).toNat + 1 + [(32 : UInt8)].length = ((Lib.index s [32]).toNat + [(32 : UInt8)].length) + 1 by omega]
      simp
theorem replaceK_all (g : List UInt8) : ∀ s : List UInt8, Lib.replaceK [32] g (Lib.count s [32]) s = respace g s
  | [] => rfl
  | c :: r => by
    by_cases h : c = 32
    · rw [h, Lib.count_cons_eq, Nat.add_comm, respace_space, ← replaceK_all g r, Lib.replaceK_hit _ _ _ _ 0 (by simp [Lib.index, List.isPrefixOf])]
      simp
    · rw [Lib.count_cons_ne _ _ _ h, replaceK_other g c h, replaceK_all g r, respace_other _ _ _ h]
theorem replaceAll_eq (g s : List UInt8) : Lib.replaceAll s [32] g = respace g s := by
  unfold Lib.replaceAll Lib.replace
  by_cases h : ([32] : List UInt8) = g
  · rw [if_pos (by simp [h]), ← h, respace_self]
  · rw [if_neg (by simpa using h)]
    unfold Lib.replaceNum
    rw [if_pos (by omega), replaceK_all]
/-- White space. -/
def whites (g : List UInt8) : Prop := ∀ c ∈ g, sp c = true
theorem col_whites : ∀ (g : List UInt8) (st pv : Bool) (r : List UInt8), whites g → colGo st pv (g ++ r) = colGo st (pv || !g.isEmpty) r
  | [], st, pv, r, _ => by simp
  | c :: g, st, pv, r, h => by
    rw [List.cons_append, colGo, if_pos (h c List.mem_cons_self), col_whites g st true r fun x hx => h x (List.mem_cons_of_mem _ hx)]
    simp
theorem col_respace (g e : List UInt8) (hg : whites g) (hne : g ≠ []) (he : whites e) : ∀ (l : List UInt8) (st pv pw : Bool), (st = true → pw = false) → colGo st pw (respace g (colGo st pv l) ++ e) = colGo st pv l
  | [], st, pv, pw, _ => by
    have := col_whites e st pw [] he
    rw [List.append_nil] at this
    rw [colGo]
    show colGo st pw ([] ++ e) = []
    rw [List.nil_append, this, colGo]
  | x :: r, st, pv, pw, h => by
    rw [colGo]
    rcases hx : sp x with _ | _
    · have hx32 : x ≠ 32 := fun e => by rw [e] at hx; exact absurd hx (by decide)
      have hs : sp x ≠ true := by rw [hx]; decide
      by_cases hb : (st && pv) = true
      · rw [if_neg (by decide : ¬ (false = true)), if_pos hb]
        rw [Bool.and_eq_true] at hb
        obtain rfl := hb.1
        rw [h rfl, respace_space, respace_other _ _ _ hx32, List.append_assoc, col_whites g true false _ hg]
        have hgn : (false || !g.isEmpty) = true := by cases g with | nil => exact absurd rfl hne | cons _ _ => rfl
        rw [hgn, List.cons_append, colGo, if_neg hs, if_pos (by decide), col_respace g e hg hne he r true false false (fun _ => rfl)]
      · rw [if_neg (by decide : ¬ (false = true)), if_neg hb, respace_other _ _ _ hx32, List.cons_append, colGo, if_neg hs]
        have hb2 : ¬ (st && pw) = true := by
          cases st
          · simp
          · rw [h rfl]; simp
        rw [if_neg hb2, col_respace g e hg hne he r true false false (fun _ => rfl)]
    · rw [if_pos rfl]
      exact col_respace g e hg hne he r st true pw h
/-- White space around, and in the place of each space, changes nothing. -/
theorem parse_respace (g : List UInt8) (hg : whites g) (hne : g ≠ []) (s : ByteArray) : parse822 (ofBytes (g ++ respace g (collapse s.data.toList) ++ g)) = parse822 s := by
  unfold parse822
  rw [ofBytes_list]
  have h : collapse (g ++ respace g (collapse s.data.toList) ++ g) = collapse s.data.toList := by
    unfold collapse
    rw [List.append_assoc, col_whites g false false _ hg]
    exact col_respace g g hg hne hg s.data.toList false false _ (fun h => by cases h)
  rw [h]

def letter (c : UInt8) : Prop := (65 ≤ c.toNat ∧ c.toNat ≤ 90) ∨ (97 ≤ c.toNat ∧ c.toNat ≤ 122)
/-- A function on bytes that turns the case of letters alone. -/
structure CaseFn (f : UInt8 → UInt8) : Prop where
  low : ∀ c, low8 (f c) = low8 c
  keep : ∀ c, ¬ letter c → f c = c
  lets : ∀ c, letter c → letter (f c)
theorem CaseFn.is {f : UInt8 → UInt8} (h : CaseFn f) (k c : UInt8) (hk : ¬ letter k) : f c = k ↔ c = k := by
  constructor
  · intro e
    by_cases hc : letter c
    · have := h.lets c hc; rw [e] at this; exact absurd this hk
    · rw [h.keep c hc] at e; exact e
  · intro e; rw [e]; exact h.keep k hk
theorem CaseFn.eqk {f : UInt8 → UInt8} (h : CaseFn f) (k : Nat) (c : UInt8) (hk : ¬ ((65 ≤ k ∧ k ≤ 90) ∨ (97 ≤ k ∧ k ≤ 122))) : (f c).toNat = k ↔ c.toNat = k := by
  by_cases hc : letter c
  · have h1 := h.lets c hc
    unfold letter at hc h1
    constructor <;> intro e <;> omega
  · rw [h.keep c hc]
theorem sp_iff (c : UInt8) : sp c = true ↔ (c.toNat = 9 ∨ c.toNat = 10 ∨ c.toNat = 13 ∨ c.toNat = 32) := by
  unfold sp isSpaceB
  simp
  omega
theorem CaseFn.sp {f : UInt8 → UInt8} (h : CaseFn f) (c : UInt8) : sp (f c) = sp c := by
  rw [Bool.eq_iff_iff, sp_iff, sp_iff, h.eqk 9 c (by omega), h.eqk 10 c (by omega), h.eqk 13 c (by omega), h.eqk 32 c (by omega)]
theorem CaseFn.col {f : UInt8 → UInt8} (h : CaseFn f) : ∀ (l : List UInt8) (st pv : Bool), colGo st pv (l.map f) = (colGo st pv l).map f
  | [], _, _ => rfl
  | c :: r, st, pv => by
    rw [List.map_cons, colGo, colGo, h.sp]
    have h32 : f 32 = 32 := h.keep 32 (by unfold letter; decide)
    split
    · exact h.col r st true
    · split
      · rw [h.col r true false, List.map_cons, List.map_cons, h32]
      · rw [h.col r true false, List.map_cons]
theorem CaseFn.words {f : UInt8 → UInt8} (h : CaseFn f) : ∀ (l cur : List UInt8), wordsGo (cur.map f) (l.map f) = (wordsGo cur l).map (List.map f)
  | [], cur => rfl
  | c :: r, cur => by
    rw [List.map_cons, wordsGo, wordsGo]
    by_cases hc : c = 32
    · rw [if_pos ((h.is 32 c (by unfold letter; decide)).2 hc), if_pos hc, List.map_cons, ← h.words r []]; rfl
    · rw [if_neg (fun e => hc ((h.is 32 c (by unfold letter; decide)).1 e)), if_neg hc, ← h.words r (cur ++ [c])]; simp
theorem CaseFn.lows {f : UInt8 → UInt8} (h : CaseFn f) (w : List UInt8) : (w.map f).map low8 = w.map low8 := by
  rw [List.map_map]; exact List.map_congr_left fun c _ => h.low c
theorem CaseFn.find {f : UInt8 → UInt8} (h : CaseFn f) (l w : List UInt8) : findP l (w.map f) = findP l w := by
  unfold findP
  have : ∀ k i, findF l (w.map f) k i = findF l w k i := by
    intro k
    induction k with
    | zero => intro i; rfl
    | succ k ih => intro i; rw [findF, findF, h.lows, ih]
  exact this _ _
theorem CaseFn.getD {f : UInt8 → UInt8} (h : CaseFn f) (w : List UInt8) (i : Nat) : (w.map f).getD i 0 = f (w.getD i 0) := by
  rw [List.getD_eq_getElem?_getD, List.getD_eq_getElem?_getD, List.getElem?_map]
  cases w[i]? with
  | none => exact (h.keep 0 (by unfold letter; decide)).symm
  | some c => rfl
theorem CaseFn.beq {f : UInt8 → UInt8} (h : CaseFn f) (k : Nat) (c : UInt8) (hk : ¬ ((65 ≤ k ∧ k ≤ 90) ∨ (97 ≤ k ∧ k ≤ 122))) : ((f c).toNat == k) = (c.toNat == k) := by
  rw [Bool.eq_iff_iff, beq_iff_eq, beq_iff_eq, h.eqk k c hk]
theorem CaseFn.day {f : UInt8 → UInt8} (h : CaseFn f) (w : List UInt8) : dayB (w.map f) = dayB w := by
  unfold dayB
  rw [List.length_map, h.getD, h.beq 44 _ (by omega), ← List.map_take, h.find]
theorem CaseFn.drop {f : UInt8 → UInt8} (h : CaseFn f) (ws : List (List UInt8)) : dropDay (ws.map (List.map f)) = (dropDay ws).map (List.map f) := by
  cases ws with
  | nil => rfl
  | cons w r =>
    rw [List.map_cons, dropDay, dropDay, h.day]
    split <;> rfl
theorem CaseFn.dg {f : UInt8 → UInt8} (h : CaseFn f) (c : UInt8) : dgB ((f c).toNat : Int) = dgB (c.toNat : Int) ∧ (dgB (c.toNat : Int) = true → f c = c) := by
  by_cases hc : letter c
  · have h1 := h.lets c hc
    unfold letter at hc h1
    have d1 : dgB ((f c).toNat : Int) = false := decide_eq_false (by omega)
    have d2 : dgB (c.toNat : Int) = false := decide_eq_false (by omega)
    rw [d1, d2]
    exact ⟨rfl, fun h => by cases h⟩
  · rw [h.keep c hc]
    exact ⟨rfl, fun _ => rfl⟩
theorem CaseFn.num {f : UInt8 → UInt8} (h : CaseFn f) : ∀ (k : Nat) (w : List UInt8) (acc : Int), numGo k (wz (w.map f)) acc = numGo k (wz w) acc
  | 0, _, _ => by rw [numGo, numGo]
  | k + 1, [], _ => rfl
  | k + 1, c :: r, acc => by
    show numGo (k + 1) (((f c).toNat : Int) :: wz (r.map f)) acc = numGo (k + 1) ((c.toNat : Int) :: wz r) acc
    rw [numGo, numGo, (h.dg c).1]
    split
    · rename_i hd
      rw [(h.dg c).2 hd, h.num k r]
    · rfl
theorem wz_drop (w : List UInt8) (i : Nat) : (wz w).drop i = wz (w.drop i) := by unfold wz; rw [List.map_drop]
theorem wz_length (w : List UInt8) : (wz w).length = w.length := by simp [wz]
theorem CaseFn.numL {f : UInt8 → UInt8} (h : CaseFn f) (w : List UInt8) (i k : Nat) : numL (wz (w.map f)) i k = numL (wz w) i k := by
  show numGo k ((wz (w.map f)).drop i) 0 = numGo k ((wz w).drop i) 0
  rw [wz_drop, wz_drop, ← List.map_drop, h.num]
theorem CaseFn.whole {f : UInt8 → UInt8} (h : CaseFn f) (w : List UInt8) (k : Nat) : wholeZ (wz (w.map f)) k = wholeZ (wz w) k := by
  unfold wholeZ; rw [wz_length, wz_length, List.length_map, h.numL]
theorem CaseFn.year {f : UInt8 → UInt8} (h : CaseFn f) (w : List UInt8) : yearZ (wz (w.map f)) = yearZ (wz w) := by
  unfold yearZ; rw [h.whole, h.whole]
theorem CaseFn.dayZ {f : UInt8 → UInt8} (h : CaseFn f) (w : List UInt8) : dayZ (w.map f) = dayZ w := by
  unfold Go.Proofs.YtdbpkggjnmapiaaDoor.dayZ; rw [h.whole, h.whole]
theorem ch_wz (w : List UInt8) (i k : Nat) : (ch (wz w) i == (k : Int)) = ((w[i]?).any fun c => c.toNat == k) := by
  unfold ch wz
  rw [List.getD_eq_getElem?_getD, List.getElem?_map]
  cases w[i]? with
  | none =>
    rw [Bool.eq_iff_iff, beq_iff_eq]
    show ((-1 : Int) = (k : Int)) ↔ false = true
    constructor
    · intro h; omega
    · intro h; cases h
  | some c =>
    rw [Bool.eq_iff_iff, beq_iff_eq]
    show (((c.toNat : Nat) : Int) = (k : Int)) ↔ (c.toNat == k) = true
    rw [beq_iff_eq]; omega
theorem CaseFn.ch {f : UInt8 → UInt8} (h : CaseFn f) (w : List UInt8) (i k : Nat) (hk : ¬ ((65 ≤ k ∧ k ≤ 90) ∨ (97 ≤ k ∧ k ≤ 122))) : (ch (wz (w.map f)) i == (k : Int)) = (ch (wz w) i == (k : Int)) := by
  rw [ch_wz, ch_wz, List.getElem?_map]
  cases w[i]? with
  | none => rfl
  | some c => exact h.beq k c hk
theorem CaseFn.zone {f : UInt8 → UInt8} (h : CaseFn f) (w : List UInt8) : zoneV (ofBytes (w.map f)) = zoneV (ofBytes w) := by
  unfold zoneV
  rw [ofBytes_list, ofBytes_list, h.lows, wz_zs, wz_zs]
  have : zoneNum (wz (w.map f)) = zoneNum (wz w) := by
    unfold zoneNum
    rw [wz_length, wz_length, List.length_map, h.numL, h.numL, show (43 : Int) = ((43 : Nat) : Int) from rfl, show (45 : Int) = ((45 : Nat) : Int) from rfl, h.ch w 0 43 (by omega), h.ch w 0 45 (by omega)]
  rw [this]
theorem CaseFn.clock {f : UInt8 → UInt8} (h : CaseFn f) (w : List UInt8) : clockW (w.map f) = (clockW w).map f := by
  unfold clockW
  rw [List.length_map]
  split
  · rw [List.map_append, List.map_cons, List.map_cons, List.map_cons, List.map_nil, h.keep 58 (by unfold letter; decide), h.keep 48 (by unfold letter; decide)]
  · rfl
theorem CaseFn.clockB {f : UInt8 → UInt8} (h : CaseFn f) (w : List UInt8) : clockB (w.map f) = clockB w := by
  unfold Go.Proofs.YtdbpkggjnmapiaaDoor.clockB
  rw [List.length_map, h.getD, h.getD, h.beq 58 _ (by omega), h.beq 58 _ (by omega)]
theorem CaseFn.sec {f : UInt8 → UInt8} (h : CaseFn f) (w0 w1 w2 c : List UInt8) : fiveSec (w0.map f) (w1.map f) (w2.map f) (c.map f) = fiveSec w0 w1 w2 c := by
  unfold fiveSec
  rw [h.year, h.find, h.dayZ, ← List.map_take, h.whole, ← List.map_drop, ← List.map_take, h.whole, ← List.map_drop, h.whole]
theorem CaseFn.five {f : UInt8 → UInt8} (h : CaseFn f) (w0 w1 w2 w3 w4 : List UInt8) : fiveV (w0.map f) (w1.map f) (w2.map f) (w3.map f) (w4.map f) = fiveV w0 w1 w2 w3 w4 := by
  unfold fiveV
  rw [h.zone, h.clock, h.clockB, h.sec]
theorem CaseFn.wordsV {f : UInt8 → UInt8} (h : CaseFn f) (ws : List (List UInt8)) : wordsV (ws.map (List.map f)) = wordsV ws := by
  match ws with
  | [] => rfl
  | [_] => rfl
  | [_, _] => rfl
  | [_, _, _] => rfl
  | [_, _, _, _] => rfl
  | [w0, w1, w2, w3, w4] => exact h.five w0 w1 w2 w3 w4
  | _ :: _ :: _ :: _ :: _ :: _ :: _ => rfl
/-- The case of letters changes nothing. -/
theorem CaseFn.parse {f : UInt8 → UInt8} (h : CaseFn f) (l : List UInt8) : parse822 (ofBytes (l.map f)) = parse822 (ofBytes l) := by
  unfold parse822
  rw [ofBytes_list, ofBytes_list]
  unfold collapse Go.Proofs.YtdbpkggjnmapiaaDoor.words
  rw [h.col]
  have := h.words (colGo false false l) []
  rw [List.map_nil] at this
  rw [this, h.drop, h.wordsV]
set_option maxRecDepth 100000 in
theorem low_case : ∀ n : Fin 256, low8 (Lib.lowerB (UInt8.ofNat n.val)) = low8 (UInt8.ofNat n.val) ∧ low8 (Lib.upperB (UInt8.ofNat n.val)) = low8 (UInt8.ofNat n.val) := by decide
theorem caseFn_of_low {f : UInt8 → UInt8} (h : ∀ c, low8 (f c) = low8 c) : CaseFn f := by
  have key : ∀ c, ((65 ≤ c.toNat ∧ c.toNat ≤ 90) → (low8 c).toNat = c.toNat + 32) ∧ (¬ (65 ≤ c.toNat ∧ c.toNat ≤ 90) → (low8 c).toNat = c.toNat) := fun c => ⟨low8_yes c, fun hc => by rw [low8_no c hc]⟩
  refine ⟨h, fun c hc => ?_, fun c hc => ?_⟩
  · unfold letter at hc
    have h1 := congrArg UInt8.toNat (h c)
    have k1 := key (f c)
    have k2 := key c
    apply UInt8.toNat_inj.1
    by_cases a : 65 ≤ (f c).toNat ∧ (f c).toNat ≤ 90
    · have := k1.1 a; have := k2.2 (by omega); omega
    · have := k1.2 a; have := k2.2 (by omega); omega
  · unfold letter at hc ⊢
    have h1 := congrArg UInt8.toNat (h c)
    have k1 := key (f c)
    have k2 := key c
    by_cases a : 65 ≤ (f c).toNat ∧ (f c).toNat ≤ 90
    · exact .inl a
    · right
      have e1 := k1.2 a
      by_cases b : 65 ≤ c.toNat ∧ c.toNat ≤ 90
      · have := k2.1 b; omega
      · have := k2.2 b; omega
theorem lower_case : CaseFn Lib.lowerB := caseFn_of_low fun c => by
  have := (low_case ⟨c.toNat, c.toNat_lt⟩).1
  simpa using this
theorem upper_case : CaseFn Lib.upperB := caseFn_of_low fun c => by
  have := (low_case ⟨c.toNat, c.toNat_lt⟩).2
  simpa using this
end Go.Proofs.YtdbpkggjnmapiaaDoor
