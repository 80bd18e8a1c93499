/- Packed from the texts MdA MdB MdC MdD. -/
import Derived.Test.YtbfalppeifkjdaaGreatDoorXk8
import Derived.Test.YtbfalppeifkjdaaGreatDoorXkA
import Derived.BigRegion
import Derived.Deep.QuietTactic
import Derived.BigQuiet
import Derived.Deep.RegionHeld3
import Derived.Laws.Cover1
section
namespace Go.Proofs.YtbfalppeifkjdaaGreatDoor
open Go.RowKit
theorem bl_irr : ∀ l : List UInt8, Op.bytesLess l l = false
  | [] => rfl
  | a :: l => by simp [Op.bytesLess, bl_irr l]
theorem bl_asym : ∀ l m : List UInt8, Op.bytesLess l m = true → Op.bytesLess m l = false
  | l, [], h => by simp [Op.bytesLess] at h
  | [], b :: m, _ => rfl
  | a :: l, b :: m, h => by
    simp only [Op.bytesLess, Bool.or_eq_true, Bool.and_eq_true, decide_eq_true_eq, beq_iff_eq] at h
    simp only [Op.bytesLess, Bool.or_eq_false_iff, Bool.and_eq_false_imp, decide_eq_false_iff_not, beq_iff_eq]
    rcases h with h | ⟨rfl, h⟩
    · refine ⟨fun h2 => ?_, fun h2 => ?_⟩
      · exact absurd (UInt8.lt_trans h h2) (UInt8.lt_irrefl _)
      · subst h2
        exact absurd h (UInt8.lt_irrefl _)
    · exact ⟨UInt8.lt_irrefl _, fun _ => bl_asym l m h⟩
theorem bl_total : ∀ l m : List UInt8, Op.bytesLess l m = false → Op.bytesLess m l = false → l = m
  | [], [], _, _ => rfl
  | [], b :: m, h, _ => by simp [Op.bytesLess] at h
  | a :: l, [], _, h => by simp [Op.bytesLess] at h
  | a :: l, b :: m, h, g => by
    simp only [Op.bytesLess, Bool.or_eq_false_iff, Bool.and_eq_false_imp, decide_eq_false_iff_not, beq_iff_eq] at h g
    have hab : a = b := UInt8.le_antisymm (UInt8.not_lt.1 g.1) (UInt8.not_lt.1 h.1)
    subst hab
    rw [bl_total l m (h.2 rfl) (g.2 rfl)]
theorem bl_trans : ∀ l m r : List UInt8, Op.bytesLess l m = true → Op.bytesLess m r = true → Op.bytesLess l r = true
  | l, [], r, h, _ => by simp [Op.bytesLess] at h
  | l, b :: m, [], _, g => by simp [Op.bytesLess] at g
  | [], b :: m, c :: r, _, _ => rfl
  | a :: l, b :: m, c :: r, h, g => by
    simp only [Op.bytesLess, Bool.or_eq_true, Bool.and_eq_true, decide_eq_true_eq, beq_iff_eq] at h g ⊢
    rcases h with h | ⟨rfl, h⟩
    · rcases g with g | ⟨rfl, g⟩
      · exact .inl (UInt8.lt_trans h g)
      · exact .inl h
    · rcases g with g | ⟨rfl, g⟩
      · exact .inl g
      · exact .inr ⟨rfl, bl_trans l m r h g⟩
structure Cmp3 {α : Type} (c : α → α → Int) : Prop where
  val : ∀ a b, c a b = -1 ∨ c a b = 0 ∨ c a b = 1
  anti : ∀ a b, c a b = -c b a
  min : ∀ a b d, c a b ≤ 0 → c b d ≤ 0 → c a d = min (c a b) (c b d)
def lexI (x y : Int) : Int := if x = 0 then y else x
theorem Cmp3.lex {α : Type} {c e : α → α → Int} (h : Cmp3 c) (k : Cmp3 e) : Cmp3 (fun a b => lexI (c a b) (e a b)) := by
  refine ⟨fun a b => ?_, fun a b => ?_, fun a b d h1 h2 => ?_⟩
  · show lexI (c a b) (e a b) = -1 ∨ lexI (c a b) (e a b) = 0 ∨ lexI (c a b) (e a b) = 1
    unfold lexI
    split
    · exact k.val a b
    · exact h.val a b
  · show lexI (c a b) (e a b) = -lexI (c b a) (e b a)
    have h1 := h.anti a b
    have h2 := k.anti a b
    unfold lexI
    split <;> split <;> omega
  · change lexI (c a b) (e a b) ≤ 0 at h1
    change lexI (c b d) (e b d) ≤ 0 at h2
    show lexI (c a d) (e a d) = _
    have v1 := h.val a b
    have v2 := h.val b d
    have u1 := k.val a b
    have u2 := k.val b d
    have m1 : c a b ≤ 0 → c b d ≤ 0 → c a d = Min.min (c a b) (c b d) := h.min a b d
    have m2 : e a b ≤ 0 → e b d ≤ 0 → e a d = Min.min (e a b) (e b d) := k.min a b d
    unfold lexI at h1 h2 ⊢
    generalize c a b = x1 at *
    generalize c b d = x2 at *
    generalize c a d = x3 at *
    generalize e a b = y1 at *
    generalize e b d = y2 at *
    generalize e a d = y3 at *
    by_cases z1 : x1 = 0 <;> by_cases z2 : x2 = 0
    · rw [if_pos z1] at h1 ⊢
      rw [if_pos z2] at h2 ⊢
      have := m1 (by omega) (by omega)
      rw [if_pos (by omega)]
      exact m2 h1 h2
    · rw [if_pos z1] at h1 ⊢
      rw [if_neg z2] at h2 ⊢
      have := m1 (by omega) (by omega)
      rw [if_neg (by omega)]
      omega
    · rw [if_neg z1] at h1 ⊢
      rw [if_pos z2] at h2 ⊢
      have := m1 (by omega) (by omega)
      rw [if_neg (by omega)]
      omega
    · rw [if_neg z1] at h1 ⊢
      rw [if_neg z2] at h2 ⊢
      have := m1 (by omega) (by omega)
      rw [if_neg (by omega)]
      omega
theorem Cmp3.on {α β : Type} {c : α → α → Int} (h : Cmp3 c) (f : β → α) : Cmp3 (fun a b => c (f a) (f b)) := ⟨fun _ _ => h.val _ _, fun _ _ => h.anti _ _, fun _ _ _ => h.min _ _ _⟩
def cmpL (l m : List UInt8) : Int := if Op.bytesLess l m = true then -1 else if Op.bytesLess m l = true then 1 else 0
theorem cmpL_zero (l m : List UInt8) : cmpL l m = 0 ↔ l = m := by
  unfold cmpL
  constructor
  · intro h
    split at h
    · cases h
    · split at h
      · cases h
      · rename_i h1 h2
        exact bl_total l m (Bool.eq_false_iff.2 h1) (Bool.eq_false_iff.2 h2)
  · rintro rfl
    rw [bl_irr, if_neg (by simp), if_neg (by simp)]
theorem cmpL_ok : Cmp3 cmpL := by
  refine ⟨fun a b => ?_, fun a b => ?_, fun a b d h1 h2 => ?_⟩
  · unfold cmpL
    split
    · exact .inl rfl
    · split
      · exact .inr (.inr rfl)
      · exact .inr (.inl rfl)
  · unfold cmpL
    by_cases h : Op.bytesLess a b = true
    · have h2 := bl_asym a b h
      rw [if_pos h, if_neg (by rw [h2]; simp), if_pos h]
    · by_cases h2 : Op.bytesLess b a = true
      · rw [if_neg h, if_pos h2, if_pos h2]
        rfl
      · rw [if_neg h, if_neg h2, if_neg h2, if_neg h]
        rfl
  · have key : ∀ x y : List UInt8, cmpL x y ≤ 0 → (cmpL x y = -1 ∧ Op.bytesLess x y = true) ∨ (cmpL x y = 0 ∧ x = y) := fun x y h => by
      by_cases hb : Op.bytesLess x y = true
      · exact .inl ⟨by unfold cmpL; rw [if_pos hb], hb⟩
      · refine .inr ?_
        have h0 : cmpL x y = 0 := by
          unfold cmpL at h ⊢
          rw [if_neg hb] at h ⊢
          split at h
          · omega
          · rename_i h2
            rw [if_neg h2]
        exact ⟨h0, (cmpL_zero x y).1 h0⟩
    rcases key a b h1 with ⟨e1, k1⟩ | ⟨e1, rfl⟩
    · rcases key b d h2 with ⟨e2, k2⟩ | ⟨e2, rfl⟩
      · rw [e1, e2]
        unfold cmpL
        rw [if_pos (bl_trans a b d k1 k2)]
        rfl
      · rw [e1, e2]
        rfl
    · rw [e1]
      rcases key a d h2 with ⟨e2, -⟩ | ⟨e2, -⟩ <;> rw [e2] <;> rfl
def cmpS (a b : ByteArray) : Int := cmpL a.data.toList b.data.toList
theorem cmpS_ok : Cmp3 cmpS := cmpL_ok.on (fun s : ByteArray => s.data.toList)
theorem cmpS_zero (a b : ByteArray) : cmpS a b = 0 ↔ a = b := by
  unfold cmpS
  rw [cmpL_zero]
  exact ⟨fun h => ByteArray.ext (Array.ext' h), fun h => by rw [h]⟩
def cmpU (a b : Int) : Int := if b < a then -1 else if a < b then 1 else 0
theorem cmpU_ok : Cmp3 cmpU := by
  refine ⟨fun a b => ?_, fun a b => ?_, fun a b d h1 h2 => ?_⟩
  · unfold cmpU
    split
    · exact .inl rfl
    · split
      · exact .inr (.inr rfl)
      · exact .inr (.inl rfl)
  · unfold cmpU
    split <;> split <;> (try split) <;> omega
  · unfold cmpU at h1 h2 ⊢
    split at h1 <;> (try split at h1) <;> split at h2 <;> (try split at h2) <;> split <;> (try split) <;> omega
def cmpP : List ByteArray → List ByteArray → Int
  | [], [] => 0
  | [], _ :: _ => -1
  | _ :: _, [] => 1
  | a :: l, b :: m => lexI (cmpS a b) (cmpP l m)
theorem cmpP_zero : ∀ l m : List ByteArray, cmpP l m = 0 ↔ l = m
  | [], [] => by simp [cmpP]
  | [], _ :: _ => by simp [cmpP]
  | _ :: _, [] => by simp [cmpP]
  | a :: l, b :: m => by
    rw [cmpP]
    unfold lexI
    split
    · rename_i h
      rw [cmpP_zero l m, (cmpS_zero a b).1 h]
      simp
    · rename_i h
      constructor
      · intro h2; exact absurd h2 h
      · intro h2
        injection h2 with h2 _
        exact absurd ((cmpS_zero a b).2 h2) h
theorem cmpP_val : ∀ l m : List ByteArray, cmpP l m = -1 ∨ cmpP l m = 0 ∨ cmpP l m = 1
  | [], [] => .inr (.inl rfl)
  | [], _ :: _ => .inl rfl
  | _ :: _, [] => .inr (.inr rfl)
  | a :: l, b :: m => by
    rw [cmpP]
    unfold lexI
    split
    · exact cmpP_val l m
    · exact cmpS_ok.val a b
theorem cmpP_anti : ∀ l m : List ByteArray, cmpP l m = -cmpP m l
  | [], [] => rfl
  | [], _ :: _ => rfl
  | _ :: _, [] => rfl
  | a :: l, b :: m => by
    rw [cmpP, cmpP]
    have h1 := cmpS_ok.anti a b
    have h2 := cmpP_anti l m
    unfold lexI
    split <;> split <;> omega
theorem cmpP_min : ∀ l m r : List ByteArray, cmpP l m ≤ 0 → cmpP m r ≤ 0 → cmpP l r = min (cmpP l m) (cmpP m r)
  | [], [], [], _, _ => rfl
  | [], [], _ :: _, _, _ => rfl
  | [], _ :: _, [], _, h => by simp [cmpP] at h
  | [], b :: m, c :: r, _, h => by
    rw [show cmpP [] (c :: r) = -1 from rfl, show cmpP [] (b :: m) = -1 from rfl]
    have := cmpP_val (b :: m) (c :: r)
    omega
  | _ :: _, [], _, h, _ => by simp [cmpP] at h
  | _ :: _, _ :: _, [], _, h => by simp [cmpP] at h
  | a :: l, b :: m, c :: r, h1, h2 => by
    rw [cmpP] at h1 h2 ⊢
    rw [cmpP, cmpP]
    have v1 := cmpS_ok.val a b
    have v2 := cmpS_ok.val b c
    have u1 := cmpP_val l m
    have u2 := cmpP_val m r
    have m1 := cmpS_ok.min a b c
    have m2 := cmpP_min l m r
    unfold lexI at h1 h2 ⊢
    generalize cmpS a b = x1 at *
    generalize cmpS b c = x2 at *
    generalize cmpS a c = x3 at *
    generalize cmpP l m = y1 at *
    generalize cmpP m r = y2 at *
    generalize cmpP l r = y3 at *
    by_cases z1 : x1 = 0 <;> by_cases z2 : x2 = 0
    · rw [if_pos z1] at h1 ⊢
      rw [if_pos z2] at h2 ⊢
      have := m1 (by omega) (by omega)
      rw [if_pos (by omega)]
      exact m2 h1 h2
    · rw [if_pos z1] at h1 ⊢
      rw [if_neg z2] at h2 ⊢
      have := m1 (by omega) (by omega)
      rw [if_neg (by omega)]
      omega
    · rw [if_neg z1] at h1 ⊢
      rw [if_pos z2] at h2 ⊢
      have := m1 (by omega) (by omega)
      rw [if_neg (by omega)]
      omega
    · rw [if_neg z1] at h1 ⊢
      rw [if_neg z2] at h2 ⊢
      have := m1 (by omega) (by omega)
      rw [if_neg (by omega)]
      omega
theorem cmpP_ok : Cmp3 cmpP := ⟨cmpP_val, cmpP_anti, cmpP_min⟩
structure EntD where
  id : ByteArray
  title : ByteArray
  link : ByteArray
  content : ByteArray
  upd : Int
structure FeedD where
  path : List ByteArray
  id : ByteArray
  title : ByteArray
  link : ByteArray
  upd : Int
  ents : List EntD
def cmpE (a b : EntD) : Int := lexI (cmpU a.upd b.upd) (cmpS a.id b.id)
def cmpF (a b : FeedD) : Int := lexI (cmpP a.path b.path) (cmpS a.id b.id)
theorem cmpE_ok : Cmp3 cmpE := (cmpU_ok.on EntD.upd).lex (cmpS_ok.on EntD.id)
theorem cmpF_ok : Cmp3 cmpF := (cmpP_ok.on FeedD.path).lex (cmpS_ok.on FeedD.id)
end Go.Proofs.YtbfalppeifkjdaaGreatDoor
end
section
namespace Go.Proofs.YtbfalppeifkjdaaGreatDoor
open Go.RowKit
theorem mblock_lt {w : World} {a : Addr} {v : Value} (hc : w.cell? a = some v) : a.block < w.heap.size := by
  rcases Nat.lt_or_ge a.block w.heap.size with h' | h'
  · exact h'
  · simp [World.cell?, Array.getElem?_eq_none h'] at hc
theorem mcell {w w' : World} (hb : Below w.heap.size w w') {a : Addr} {v : Value} (h : w.cell? a = some v) : w'.cell? a = some v := (hb.cell (mblock_lt h)).trans h
theorem mdrewN {B : Nat} {a w : World} (h : Below B a w) (n : Nat) : Below B a (w.drewN n) := h.trans ⟨rfl, rfl, rfl, Nat.le_refl _, fun _ _ => rfl⟩
theorem mstr_ne {a b : ByteArray} (h : a ≠ b) : (a.toList == b.toList) = false ∧ ¬ a.toList = b.toList := by
  have h2 : ¬ a.toList = b.toList := fun e => h (by
    rw [ByteArray.toList_eq, ByteArray.toList_eq] at e
    exact ByteArray.ext (Array.ext' e))
  exact ⟨beq_eq_false_iff_ne.2 h2, h2⟩
def NamAt (w : World) (p : Option Addr) (l : List ByteArray) : Prop := ∀ i (h : i < l.length), ∃ a, p = some a ∧ w.cell? (a.add i) = some (.string l[i])
theorem NamAt.below {w w' : World} {p : Option Addr} {l : List ByteArray} (h : NamAt w p l) (hb : Below w.heap.size w w') : NamAt w' p l := fun i hi => by
  obtain ⟨a, ha, hc⟩ := h i hi
  exact ⟨a, ha, mcell hb hc⟩
def EntV (e : EntD) : Value := .agg #[.string e.id, .string e.title, .string e.link, .string e.content, .int .i64 e.upd]
def EntsAt (w : World) (p : Option Addr) (l : List EntD) : Prop := ∀ i (h : i < l.length), ∃ a, p = some a ∧ (w.cell? (a.add (i * 5)) = some (.string l[i].id) ∧ w.cell? ((a.add (i * 5)).add 1) = some (.string l[i].title) ∧ w.cell? ((a.add (i * 5)).add 2) = some (.string l[i].link) ∧ w.cell? ((a.add (i * 5)).add 3) = some (.string l[i].content) ∧ w.cell? ((a.add (i * 5)).add 4) = some (.int .i64 l[i].upd))
theorem EntsAt.below {w w' : World} {p : Option Addr} {l : List EntD} (h : EntsAt w p l) (hb : Below w.heap.size w w') : EntsAt w' p l := fun i hi => by
  obtain ⟨a, ha, h0, h1, h2, h3, h4⟩ := h i hi
  exact ⟨a, ha, mcell hb h0, mcell hb h1, mcell hb h2, mcell hb h3, mcell hb h4⟩
def FeedIs (w : World) (f : FeedD) (v : Value) : Prop := ∃ p c q d, v = .agg #[.slice p f.path.length c, .string f.id, .string f.title, .string f.link, .int .i64 f.upd, .slice q f.ents.length d] ∧ NamAt w p f.path ∧ EntsAt w q f.ents
theorem FeedIs.below {w w' : World} {f : FeedD} {v : Value} (h : FeedIs w f v) (hb : Below w.heap.size w w') : FeedIs w' f v := by
  obtain ⟨p, c, q, d, rfl, h1, h2⟩ := h
  exact ⟨p, c, q, d, rfl, h1.below hb, h2.below hb⟩
def FeedsAt (w : World) (p : Option Addr) (l : List FeedD) : Prop := ∀ i (h : i < l.length), ∃ a p' c q d, p = some a ∧ (w.cell? (a.add (i * 6)) = some (.slice p' l[i].path.length c) ∧ w.cell? ((a.add (i * 6)).add 1) = some (.string l[i].id) ∧ w.cell? ((a.add (i * 6)).add 2) = some (.string l[i].title) ∧ w.cell? ((a.add (i * 6)).add 3) = some (.string l[i].link) ∧ w.cell? ((a.add (i * 6)).add 4) = some (.int .i64 l[i].upd) ∧ w.cell? ((a.add (i * 6)).add 5) = some (.slice q l[i].ents.length d)) ∧ NamAt w p' l[i].path ∧ EntsAt w q l[i].ents
theorem FeedsAt.below {w w' : World} {p : Option Addr} {l : List FeedD} (h : FeedsAt w p l) (hb : Below w.heap.size w w') : FeedsAt w' p l := fun i hi => by
  obtain ⟨a, p', c, q, d, ha, ⟨h0, h1, h2, h3, h4, h5⟩, hn, he⟩ := h i hi
  exact ⟨a, p', c, q, d, ha, ⟨mcell hb h0, mcell hb h1, mcell hb h2, mcell hb h3, mcell hb h4, mcell hb h5⟩, hn.below hb, he.below hb⟩
theorem mretI {a b : Int} (h : a = b) : Ending.returned (.int .i64 a) = .returned (.int .i64 b) := by rw [h]
theorem mref_compare (a b : ByteArray) (w : World) : Calls Tryz.prog 60 #[.string a, .string b] w fun e w' => e = .returned (.int .i64 (cmpS a b)) ∧ w = w' := by
  have hR : cmpS a b = if Op.bytesLess a.toList b.toList = true then -1 else if a = b then 0 else 1 := by
    rw [ByteArray.toList_eq, ByteArray.toList_eq]
    by_cases h2 : a = b
    · subst h2
      rw [(cmpS_zero a a).2 rfl, bl_irr, if_neg (by simp), if_pos rfl]
    · rw [if_neg h2]
      unfold cmpS cmpL
      by_cases h1 : Op.bytesLess a.data.toList b.data.toList = true
      · rw [if_pos h1, if_pos h1]
      · rw [if_neg h1, if_neg h1]
        by_cases h3 : Op.bytesLess b.data.toList a.data.toList = true
        · rw [if_pos h3]
        · exact absurd (ByteArray.ext (Array.ext' (bl_total _ _ (Bool.eq_false_iff.2 h1) (Bool.eq_false_iff.2 h3)))) h2
  by_cases h : a = b
  · subst h
    rw [if_pos rfl] at hR
    have hx : Op.bytesLess a.toList a.toList = false := bl_irr _
    rw [hx, if_neg (by simp)] at hR
    rw [hR]
    clear hR
    go_enter Tryz.func60, Tryz.ntmps60
    go_wp2
    go_ret
    exact ⟨rfl, rfl⟩
  · rw [if_neg h] at hR
    obtain ⟨n1, n2⟩ := mstr_ne h
    clear h
    cases hx : Op.bytesLess a.toList b.toList
    · rw [hx, if_neg (by simp)] at hR
      rw [hR]
      clear hR
      go_enter Tryz.func60, Tryz.ntmps60
      go_wp2
      go_ret
      exact ⟨rfl, rfl⟩
    · rw [hx, if_pos rfl] at hR
      rw [hR]
      clear hR
      go_enter Tryz.func60, Tryz.ntmps60
      go_wp2
      go_ret
      exact ⟨rfl, rfl⟩
set_option maxRecDepth 100000 in
set_option maxHeartbeats 4000000 in
theorem mref_paths (l m : List ByteArray) (p : Option Addr) (c : Nat) (q : Option Addr) (d : Nat) (w : World) (hl : NamAt w p l) (hm : NamAt w q m) (h1 : l.length ≤ 100000000) (h2 : m.length ≤ 100000000) :
    Calls Tryz.prog 40 #[.slice p l.length c, .slice q m.length d] w fun e w' => e = .returned (.int .i64 (cmpP l m)) ∧ Below w.heap.size w w' := by
  obtain ⟨R, hR⟩ : ∃ R, cmpP l m = R := ⟨_, rfl⟩
  rw [hR]
  have HR := Lib.hid hR.symm
  have HL := Lib.hid hl
  have HM := Lib.hid hm
  have h1z : (l.length : Int) ≤ 100000000 := by omega
  have h2z : (m.length : Int) ≤ 100000000 := by omega
  clear hl hm hR
  go_enter Tryz.func40, Tryz.ntmps40
  go_wp2
  go_loopw [5] (fun v wr => ∃ i : Nat, i ≤ l.length ∧ i ≤ m.length ∧ v = .int .i64 (i : Int) ∧ R = cmpP (l.drop i) (m.drop i) ∧ Below w.heap.size w wr) (fun v _ => l.length - (RowKit.intOf v).toNat)
  case atStart => exact ⟨0, Nat.zero_le _, Nat.zero_le _, rfl, HR.out, Below.refl _ _⟩
  case round =>
    clear HR
    obtain ⟨i, hi, hj, rfl, hR, hb⟩ := hrel
    have hz := hb.size
    by_cases hli : i < l.length
    · have hiz : (i : Int) < (l.length : Int) := by omega
      by_cases hmi : i < m.length
      · have hjz : (i : Int) < (m.length : Int) := by omega
        obtain ⟨a, rfl, ca⟩ := HL.out.below hb i hli
        obtain ⟨b, rfl, cb⟩ := HM.out.below hb i hmi
        rw [List.drop_eq_getElem_cons hli, List.drop_eq_getElem_cons hmi, cmpP] at hR
        obtain ⟨x, hx⟩ : ∃ x, l[i] = x := ⟨_, rfl⟩
        obtain ⟨y, hy⟩ : ∃ y, m[i] = y := ⟨_, rfl⟩
        rw [hx] at ca hR
        rw [hy] at cb hR
        clear hx hy
        obtain ⟨aa, haa⟩ : ∃ aa, a.add i = aa := ⟨_, rfl⟩
        obtain ⟨bb, hbb⟩ : ∃ bb, b.add i = bb := ⟨_, rfl⟩
        rw [haa] at ca
        rw [hbb] at cb
        by_cases hxy : x = y
        · subst hxy
          rw [(cmpS_zero x x).2 rfl, show lexI 0 (cmpP (l.drop (i + 1)) (m.drop (i + 1))) = cmpP (l.drop (i + 1)) (m.drop (i + 1)) from rfl] at hR
          have HRR := Lib.hid hR
          have HB := Lib.hid hb
          clear hR hb
          go_wp2
          go_quiet (fail)
          go_wp2
          go_roundw
          case rel => exact ⟨i + 1, by omega, by omega, by go_num, HRR.out, mdrewN HB.out _⟩
          case measure => simp [RowKit.intOf]; omega
        · obtain ⟨ne1, ne2⟩ := mstr_ne hxy
          have hlex : R = cmpS x y := by
            rw [hR]
            unfold lexI
            rw [if_neg (fun e => hxy ((cmpS_zero x y).1 e))]
          have cC := fun wx => mref_compare x y wx
          rw [← hlex] at cC
          have HB := Lib.hid hb
          clear hR hb hlex hxy
          go_wp2
          go_quiet (fail)
          go_wp2
          have ca4 : (wr.drewN nq).cell? aa = some (.string x) := ca
          have cb4 : (wr.drewN nq).cell? bb = some (.string y) := cb
          have HB4 := Lib.hid (mdrewN HB.out nq)
          clear ca cb
          generalize wr.drewN nq = w4 at *
          have hS : w4.drew.cell? aa = some (.string x) ∧ w4.drew.cell? bb = some (.string y) := ⟨ca4, cb4⟩
          go_region_held3 (fun w' => w'.cell? aa = some (.string x) ∧ w'.cell? bb = some (.string y)) (with_reducible exact hS) (first | (go_at_call 60; with_reducible refine (cC _).mono ?_; rintro e w5 ⟨rfl, rfl⟩))
          all_goals
            go_wp2
            go_ret
            exact ⟨rfl, HB4.out.drew⟩
      · obtain rfl : i = m.length := by omega
        have hjz : ¬ (m.length : Int) < (m.length : Int) := by omega
        have hlz : (m.length : Int) < (l.length : Int) := by omega
        have hlz2 : ¬ (l.length : Int) < (m.length : Int) := by omega
        rw [List.drop_length, List.drop_eq_getElem_cons hli, show cmpP (l[m.length] :: l.drop (m.length + 1)) [] = 1 from rfl] at hR
        subst hR
        have HB := Lib.hid hb
        clear hb
        go_wp2
        go_ret
        exact ⟨rfl, HB.out⟩
    · obtain rfl : i = l.length := by omega
      have hiz : ¬ (l.length : Int) < (l.length : Int) := by omega
      rw [List.drop_length] at hR
      have HB := Lib.hid hb
      clear hb
      by_cases hmi : l.length < m.length
      · have hmz : (l.length : Int) < (m.length : Int) := by omega
        rw [List.drop_eq_getElem_cons hmi, show cmpP [] (m[l.length] :: m.drop (l.length + 1)) = -1 from rfl] at hR
        subst hR
        go_wp2
        go_ret
        exact ⟨rfl, HB.out⟩
      · have hmz : ¬ (l.length : Int) < (m.length : Int) := by omega
        have hmz2 : ¬ (m.length : Int) < (l.length : Int) := by omega
        rw [List.drop_eq_nil_of_le (by omega), show cmpP [] [] = 0 from rfl] at hR
        subst hR
        go_wp2
        go_ret
        exact ⟨rfl, HB.out⟩
end Go.Proofs.YtbfalppeifkjdaaGreatDoor
end
section
namespace Go.Proofs.YtbfalppeifkjdaaGreatDoor
open Go.RowKit
def inTB (t : Int) : Bool := decide (-62135596800 ≤ t ∧ t ≤ 253402300799)
end Go.Proofs.YtbfalppeifkjdaaGreatDoor
end
section
namespace Go.Proofs.YtbfalppeifkjdaaGreatDoor
open Go.RowKit
def okE (e : EntD) : Bool := validB e.id && (validB e.title && (validB e.link && (validB e.content && (!decide (e.id.size = 0) && inTB e.upd))))
def EBox (w : World) (b : Nat) (e : EntD) : Prop := w.cell? ⟨b, 0, none⟩ = some (.string e.id) ∧ w.cell? ⟨b, 1, none⟩ = some (.string e.title) ∧ w.cell? ⟨b, 2, none⟩ = some (.string e.link) ∧ w.cell? ⟨b, 3, none⟩ = some (.string e.content) ∧ w.cell? ⟨b, 4, none⟩ = some (.int .i64 e.upd)
theorem EBox.below {w w' : World} {b : Nat} {e : EntD} (h : EBox w b e) (hb : Below w.heap.size w w') : EBox w' b e := ⟨mcell hb h.1, mcell hb h.2.1, mcell hb h.2.2.1, mcell hb h.2.2.2.1, mcell hb h.2.2.2.2⟩
theorem EBox.new (w : World) (e : EntD) : EBox (w.alloc (.cells #[.string e.id, .string e.title, .string e.link, .string e.content, .int .i64 e.upd] 23)) w.heap.size e :=
  have h := heap_alloc_new w (.cells #[.string e.id, .string e.title, .string e.link, .string e.content, .int .i64 e.upd] 23)
  ⟨cell_of_row _ _ 0 _ _ _ h, cell_of_row _ _ 1 _ _ _ h, cell_of_row _ _ 2 _ _ _ h, cell_of_row _ _ 3 _ _ _ h, cell_of_row _ _ 4 _ _ _ h⟩
theorem mstr_none {s : ByteArray} (h : s.size = 0) : s.toList.isEmpty = true ∧ (s.toList == []) = true ∧ s.toList = [] := by
  have : s.toList = [] := by
    rw [ByteArray.toList_eq]
    apply List.length_eq_zero_iff.1
    simpa using h
  exact ⟨by rw [this]; rfl, by rw [this]; rfl, this⟩
theorem mstr_some {s : ByteArray} (h : s.size ≠ 0) : s.toList.isEmpty = false ∧ (s.toList == []) = false ∧ ¬ s.toList = [] := by
  have : ¬ s.toList = [] := fun e => h (by
    rw [ByteArray.toList_eq] at e
    have := congrArg List.length e
    simpa using this)
  refine ⟨?_, ?_, this⟩
  · cases he : s.toList with
    | nil => exact absurd he this
    | cons _ _ => rfl
  · exact beq_eq_false_iff_ne.2 this
end Go.Proofs.YtbfalppeifkjdaaGreatDoor
end
