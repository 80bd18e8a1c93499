/- Packed from the texts MdI MdJ. -/
import Derived.Test.YtggfblodjanfkaaGreatDoorVk7
section
namespace Go.Proofs.YtggfblodjanfkaaGreatDoor
open Go.RowKit
def ltB (a b : EntD) : Bool := decide (a.upd < b.upd) || (decide (a.upd = b.upd) && Op.bytesLess (ekL a) (ekL b))
def ltE (a b : EntD) : EntD := if ltB a b = true then b else a
theorem gt_less (a b : List UInt8) : (!(Op.bytesLess (ofBytes b).toList (ofBytes a).toList || (ofBytes b).toList == (ofBytes a).toList)) = Op.bytesLess a b := by
  rw [ByteArray.toList_eq, ByteArray.toList_eq, ofBytes_list, ofBytes_list]
  by_cases h : b = a
  · subst h
    rw [bl_irr, beq_self_eq_true]
    rfl
  · rw [beq_eq_false_iff_ne.2 h, Bool.or_false]
    rcases h1 : Op.bytesLess b a with _ | _
    · rcases h2 : Op.bytesLess a b with _ | _
      · exact absurd (bl_total b a h1 h2) h
      · rfl
    · rw [bl_asym b a h1]
      rfl
def MBlk (w : World) (b : Nat) (cs : Array Value) (T : TypeId) : Prop := w.heap[b]? = some (.cells cs T (0, 0))
theorem MBlk.lt {w : World} {b : Nat} {cs : Array Value} {T : TypeId} (h : MBlk w b cs T) : b < w.heap.size := (Array.getElem?_eq_some_iff.1 h).1
theorem MBlk.cell {w : World} {b : Nat} {cs : Array Value} {T : TypeId} (h : MBlk w b cs T) (o : Nat) : w.cell? ⟨b, o, none⟩ = cs[o]? := cell_of_row w b o _ _ _ h
theorem MBlk.fr {w : World} {b : Nat} {cs : Array Value} {T : TypeId} (h : MBlk w b cs T) (o : Nat) : w.frozen? ⟨b, o, none⟩ = false := frozen_of_row w b o _ _ h
theorem MBlk.more {w w' : World} {b : Nat} {cs : Array Value} {T : TypeId} (h : MBlk w b cs T) (k : Below w.heap.size w w') : MBlk w' b cs T := (k.block b h.lt).trans h
theorem mset_same {w : World} {p : Addr} (v : Value) (h : (w.cell? p).isSome = true) : (w.setCell p v).cell? p = some v := by
  obtain ⟨u, hu⟩ := Option.isSome_iff_exists.mp h
  exact World.cell?_setCell_same w p v hu
end Go.Proofs.YtggfblodjanfkaaGreatDoor
end
section
namespace Go.Proofs.YtggfblodjanfkaaGreatDoor
open Go.RowKit
def mxB {α : Type} (c : α → α → Int) (a b : α) : α := if c a b < 0 then b else a
theorem mxB_self {α : Type} (c : α → α → Int) (a : α) : mxB c a a = a := by unfold mxB; split <;> rfl
theorem mxB_assoc {α : Type} {c : α → α → Int} (h : Cmp3 c) (a b d : α) : mxB c (mxB c a b) d = mxB c a (mxB c b d) := by
  have v1 := h.val a b
  have v2 := h.val b d
  have v3 := h.val a d
  have m1 : c a b ≤ 0 → c b d ≤ 0 → c a d = Min.min (c a b) (c b d) := h.min a b d
  have n1 := h.anti a b
  have n2 := h.anti b d
  have n3 := h.anti a d
  have m2 : c d b ≤ 0 → c b a ≤ 0 → c d a = Min.min (c d b) (c b a) := h.min d b a
  unfold mxB
  by_cases h1 : c a b < 0
  · rw [if_pos h1]
    by_cases h2 : c b d < 0
    · rw [if_pos h2, if_pos (by have := m1 (by omega) (by omega); omega)]
    · rw [if_neg h2, if_pos h1]
  · rw [if_neg h1]
    by_cases h2 : c b d < 0
    · rw [if_pos h2]
    · rw [if_neg h2, if_neg h1, if_neg (by have := m2 (by omega) (by omega); omega)]
theorem mxB_comm {α : Type} {c : α → α → Int} (h : Cmp3 c) (a b : α) (he : c a b = 0 → a = b) : mxB c b a = mxB c a b := by
  have v1 := h.val a b
  have n1 := h.anti a b
  unfold mxB
  by_cases h1 : c a b < 0
  · rw [if_pos h1, if_neg (by omega)]
  · rw [if_neg h1]
    by_cases h2 : c b a < 0
    · rw [if_pos h2]
    · rw [if_neg h2, he (by omega)]
def cmpT (a b : Int) : Int := cmpU b a
theorem cmpT_ok : Cmp3 cmpT := ⟨fun a b => cmpU_ok.val b a, fun a b => cmpU_ok.anti b a, fun a b d h1 h2 => by
  have n1 := cmpU_ok.anti b a
  have n2 := cmpU_ok.anti d b
  have n3 := cmpU_ok.anti d a
  have v1 := cmpU_ok.val b a
  have v2 := cmpU_ok.val d b
  have v3 := cmpU_ok.val d a
  change cmpU b a ≤ 0 at h1
  change cmpU d b ≤ 0 at h2
  show cmpU d a = Min.min (cmpU b a) (cmpU d b)
  have m := cmpU_ok.min d b a h2 h1
  rw [m]
  exact Int.min_comm _ _⟩
def cmpK (a b : EntD) : Int := lexI (cmpT a.upd b.upd) (cmpL (ekL a) (ekL b))
theorem lt_lex (u v : Int) (k l : List UInt8) : (decide (u < v) || (decide (u = v) && Op.bytesLess k l)) = decide (lexI (cmpT u v) (cmpL k l) < 0) := by
  unfold lexI cmpT cmpU
  by_cases h1 : u < v
  · rw [decide_eq_true h1, Bool.true_or, if_pos h1, if_neg (by omega)]
    rfl
  · rw [decide_eq_false h1, Bool.false_or, if_neg h1]
    by_cases h2 : u = v
    · subst h2
      rw [decide_eq_true rfl, Bool.true_and, if_neg (Int.lt_irrefl u), if_pos rfl]
      unfold cmpL
      cases Op.bytesLess k l
      · rw [if_neg (by simp)]
        split <;> rfl
      · rw [if_pos rfl]
        rfl
    · rw [decide_eq_false h2, Bool.false_and, if_pos (show v < u by omega), if_neg (by decide)]
      rfl
theorem ltE_mx (a b : EntD) : ltE a b = mxB cmpK a b := by
  unfold ltE mxB ltB cmpK
  rw [lt_lex]
  by_cases h : lexI (cmpT a.upd b.upd) (cmpL (ekL a) (ekL b)) < 0
  · rw [if_pos h, if_pos (decide_eq_true h)]
  · rw [if_neg h, if_neg (by rw [decide_eq_false h]; simp)]
theorem quote_inj (a b t r : List UInt8) (ha : vaL a = true) (hb : vaL b = true) (h : quoteJ a ++ t = quoteJ b ++ r) : a = b ∧ t = r := by
  have e : ∀ s u : List UInt8, (quoteJ s ++ u).drop 1 = itemsJ s ++ (34 :: u) := fun s u => by unfold quoteJ; simp
  have q : ∀ s u : List UInt8, vaL s = true → parJ 0 1 ((quoteJ s ++ u).drop 1) [] = (s, ((quoteJ s).length : Int), 0) := fun s u hs => by
    rw [e, parJ_items _ _ s hs, parJ_quote, List.nil_append]
    refine Prod.ext rfl (Prod.ext ?_ rfl)
    show (1 : Int) + _ + 1 = ((quoteJ s).length : Int)
    rw [quoteJ_len]
    omega
  have h1 := q a t ha
  rw [h, q b r hb] at h1
  have hab : b = a := congrArg Prod.fst h1
  subst hab
  exact ⟨rfl, List.append_cancel_left h⟩
theorem jnS_inj : ∀ (b : Bool) (l m : List ByteArray) (t r : List UInt8), vaS l = true → vaS m = true → l.length = m.length → jnS b l ++ t = jnS b m ++ r → l = m ∧ t = r
  | _, [], [], _, _, _, _, _, h => ⟨rfl, h⟩
  | b, x :: l, y :: m, t, r, hl, hm, hn, h => by
    have hl' : vaL x.data.toList = true ∧ vaS l = true := by
      have : (vaL x.data.toList && vaS l) = true := hl
      rwa [Bool.and_eq_true] at this
    have hm' : vaL y.data.toList = true ∧ vaS m = true := by
      have : (vaL y.data.toList && vaS m) = true := hm
      rwa [Bool.and_eq_true] at this
    rw [jnS, jnS, List.append_assoc, List.append_assoc, List.append_assoc, List.append_assoc] at h
    have h2 := List.append_cancel_left h
    obtain ⟨h3, h4⟩ := quote_inj _ _ _ _ hl'.1 hm'.1 h2
    obtain ⟨h5, h6⟩ := jnS_inj false l m t r hl'.2 hm'.2 (by simpa using hn) h4
    exact ⟨by rw [h5, show x = y from ByteArray.ext (Array.ext' h3)], h6⟩
theorem itoa_inj (a b : Int) (a0 : -9223372036854775808 ≤ a) (a1 : a ≤ 9223372036854775807) (b0 : -9223372036854775808 ≤ b) (b1 : b ≤ 9223372036854775807) (h : Lib.itoa a = Lib.itoa b) : a = b := by
  have h1 := num_itoa a a0 a1
  rw [h, num_itoa b b0 b1] at h1
  exact (Option.some.inj h1).symm
end Go.Proofs.YtggfblodjanfkaaGreatDoor
end
