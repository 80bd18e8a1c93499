/- Packed from the texts MdI MdJ MdO. -/
import Derived.Test.YtbfalppeifkjdaaGreatDoorXk7
import Derived.Deep.AppendLies
import Derived.Deep.AppendSrc
section
namespace Go.Proofs.YtbfalppeifkjdaaGreatDoor
open Go.RowKit
def ltB (a b : EntD) : Bool := decide (a.upd < b.upd) || (decide (a.upd = b.upd) && Op.bytesLess (ekL a) (ekL b))
def ltE (a b : EntD) : EntD := if ltB a b = true then b else a
def MBlk (w : World) (b : Nat) (cs : Array Value) (T : TypeId) : Prop := w.heap[b]? = some (.cells cs T (0, 0))
theorem MBlk.lt {w : World} {b : Nat} {cs : Array Value} {T : TypeId} (h : MBlk w b cs T) : b < w.heap.size := (Array.getElem?_eq_some_iff.1 h).1
theorem MBlk.cell {w : World} {b : Nat} {cs : Array Value} {T : TypeId} (h : MBlk w b cs T) (o : Nat) : w.cell? ⟨b, o, none⟩ = cs[o]? := cell_of_row w b o _ _ _ h
theorem MBlk.fr {w : World} {b : Nat} {cs : Array Value} {T : TypeId} (h : MBlk w b cs T) (o : Nat) : w.frozen? ⟨b, o, none⟩ = false := frozen_of_row w b o _ _ h
theorem MBlk.more {w w' : World} {b : Nat} {cs : Array Value} {T : TypeId} (h : MBlk w b cs T) (k : Below w.heap.size w w') : MBlk w' b cs T := (k.block b h.lt).trans h
theorem mset_same {w : World} {p : Addr} (v : Value) (h : (w.cell? p).isSome = true) : (w.setCell p v).cell? p = some v := by
  obtain ⟨u, hu⟩ := Option.isSome_iff_exists.mp h
  exact World.cell?_setCell_same w p v hu
end Go.Proofs.YtbfalppeifkjdaaGreatDoor
end
section
namespace Go.Proofs.YtbfalppeifkjdaaGreatDoor
open Go.RowKit
def mxB {α : Type} (c : α → α → Int) (a b : α) : α := if c a b < 0 then b else a
theorem Cmp3.self {α : Type} {c : α → α → Int} (h : Cmp3 c) (a : α) : c a a = 0 := by have := h.anti a a; omega
theorem mxB_self {α : Type} (c : α → α → Int) (a : α) : mxB c a a = a := by unfold mxB; split <;> rfl
theorem mxB_assoc {α : Type} {c : α → α → Int} (h : Cmp3 c) (a b d : α) : mxB c (mxB c a b) d = mxB c a (mxB c b d) := by
  have v1 := h.val a b
  have v2 := h.val b d
  have v3 := h.val a d
  have m1 : c a b ≤ 0 → c b d ≤ 0 → c a d = Min.min (c a b) (c b d) := h.min a b d
  have n1 := h.anti a b
  have n2 := h.anti b d
  have n3 := h.anti a d
  have m2 : c d b ≤ 0 → c b a ≤ 0 → c d a = Min.min (c d b) (c b a) := h.min d b a
  unfold mxB
  by_cases h1 : c a b < 0
  · rw [if_pos h1]
    by_cases h2 : c b d < 0
    · rw [if_pos h2, if_pos (by have := m1 (by omega) (by omega); omega)]
    · rw [if_neg h2, if_pos h1]
  · rw [if_neg h1]
    by_cases h2 : c b d < 0
    · rw [if_pos h2]
    · rw [if_neg h2, if_neg h1, if_neg (by have := m2 (by omega) (by omega); omega)]
def cmpT (a b : Int) : Int := cmpU b a
theorem cmpT_ok : Cmp3 cmpT := ⟨fun a b => cmpU_ok.val b a, fun a b => cmpU_ok.anti b a, fun a b d h1 h2 => by
  have n1 := cmpU_ok.anti b a
  have n2 := cmpU_ok.anti d b
  have n3 := cmpU_ok.anti d a
  have v1 := cmpU_ok.val b a
  have v2 := cmpU_ok.val d b
  have v3 := cmpU_ok.val d a
  change cmpU b a ≤ 0 at h1
  change cmpU d b ≤ 0 at h2
  show cmpU d a = Min.min (cmpU b a) (cmpU d b)
  have m := cmpU_ok.min d b a h2 h1
  rw [m]
  exact Int.min_comm _ _⟩
def cmpK (a b : EntD) : Int := lexI (cmpT a.upd b.upd) (cmpL (ekL a) (ekL b))
theorem cmpK_ok : Cmp3 cmpK := (cmpT_ok.on EntD.upd).lex (cmpL_ok.on ekL)
theorem lt_lex (u v : Int) (k l : List UInt8) : (decide (u < v) || (decide (u = v) && Op.bytesLess k l)) = decide (lexI (cmpT u v) (cmpL k l) < 0) := by
  unfold lexI cmpT cmpU
  by_cases h1 : u < v
  · rw [decide_eq_true h1, Bool.true_or, if_pos h1, if_neg (by omega)]
    rfl
  · rw [decide_eq_false h1, Bool.false_or, if_neg h1]
    by_cases h2 : u = v
    · subst h2
      rw [decide_eq_true rfl, Bool.true_and, if_neg (Int.lt_irrefl u), if_pos rfl]
      unfold cmpL
      cases Op.bytesLess k l
      · rw [if_neg (by simp)]
        split <;> rfl
      · rw [if_pos rfl]
        rfl
    · rw [decide_eq_false h2, Bool.false_and, if_pos (show v < u by omega), if_neg (by decide)]
      rfl
theorem ltE_mx (a b : EntD) : ltE a b = mxB cmpK a b := by
  unfold ltE mxB ltB cmpK
  rw [lt_lex]
  by_cases h : lexI (cmpT a.upd b.upd) (cmpL (ekL a) (ekL b)) < 0
  · rw [if_pos h, if_pos (decide_eq_true h)]
  · rw [if_neg h, if_neg (by rw [decide_eq_false h]; simp)]
end Go.Proofs.YtbfalppeifkjdaaGreatDoor
end
section
namespace Go.Proofs.YtbfalppeifkjdaaGreatDoor
open Go.RowKit
def ltFB (a b : FeedD) : Bool := decide (a.upd < b.upd) || (decide (a.upd = b.upd) && Op.bytesLess (fkL a) (fkL b))
def bareF (f : FeedD) : FeedD := { f with ents := [] }
def ltF (a b : FeedD) : FeedD := bareF (if ltFB a b = true then b else a)
theorem mstr_info : (Tryz.prog.info? 9).map (fun i => (i.zero, i.size, i.bytes)) = some (some (.string ⟨#[]⟩), 1, 16) := by kernel_rfl
theorem nam_news {w : World} {ad : Addr} {l : List ByteArray} (h : NamAt w (some ad) l) : ∀ j u, (l.map Value.string)[j]? = some u → w.cell? (ad.add j) = some u := by
  intro j u hj
  have hlt : j < l.length := by have := (List.getElem?_eq_some_iff.1 hj).1; simpa using this
  obtain ⟨a, ha, hc⟩ := h j hlt
  cases ha
  rw [List.getElem?_map, List.getElem?_eq_getElem hlt] at hj
  injection hj with hj
  rw [← hj]
  exact hc
theorem mblk_set6 {w : World} {b : Nat} {T : TypeId} {u0 u1 u2 u3 u4 u5 : Value} (h : MBlk w b #[u0, u1, u2, u3, u4, u5] T) (v0 v1 v2 v3 v4 v5 : Value) : MBlk ((((((w.setCell ⟨b, 0, none⟩ v0).setCell ⟨b, 1, none⟩ v1).setCell ⟨b, 2, none⟩ v2).setCell ⟨b, 3, none⟩ v3).setCell ⟨b, 4, none⟩ v4).setCell ⟨b, 5, none⟩ v5) b #[v0, v1, v2, v3, v4, v5] T := by
  have h1 : MBlk (w.setCell ⟨b, 0, none⟩ v0) b #[v0, u1, u2, u3, u4, u5] T := by
    have := heap_setCell_same _ b 0 _ _ v0 h
    rwa [show (#[u0, u1, u2, u3, u4, u5] : Array Value).setIfInBounds 0 v0 = #[v0, u1, u2, u3, u4, u5] from rfl] at this
  have h2 : MBlk ((w.setCell ⟨b, 0, none⟩ v0).setCell ⟨b, 1, none⟩ v1) b #[v0, v1, u2, u3, u4, u5] T := by
    have := heap_setCell_same _ b 1 _ _ v1 h1
    rwa [show (#[v0, u1, u2, u3, u4, u5] : Array Value).setIfInBounds 1 v1 = #[v0, v1, u2, u3, u4, u5] from rfl] at this
  have h3 : MBlk (((w.setCell ⟨b, 0, none⟩ v0).setCell ⟨b, 1, none⟩ v1).setCell ⟨b, 2, none⟩ v2) b #[v0, v1, v2, u3, u4, u5] T := by
    have := heap_setCell_same _ b 2 _ _ v2 h2
    rwa [show (#[v0, v1, u2, u3, u4, u5] : Array Value).setIfInBounds 2 v2 = #[v0, v1, v2, u3, u4, u5] from rfl] at this
  have h4 : MBlk ((((w.setCell ⟨b, 0, none⟩ v0).setCell ⟨b, 1, none⟩ v1).setCell ⟨b, 2, none⟩ v2).setCell ⟨b, 3, none⟩ v3) b #[v0, v1, v2, v3, u4, u5] T := by
    have := heap_setCell_same _ b 3 _ _ v3 h3
    rwa [show (#[v0, v1, v2, u3, u4, u5] : Array Value).setIfInBounds 3 v3 = #[v0, v1, v2, v3, u4, u5] from rfl] at this
  have h5 : MBlk (((((w.setCell ⟨b, 0, none⟩ v0).setCell ⟨b, 1, none⟩ v1).setCell ⟨b, 2, none⟩ v2).setCell ⟨b, 3, none⟩ v3).setCell ⟨b, 4, none⟩ v4) b #[v0, v1, v2, v3, v4, u5] T := by
    have := heap_setCell_same _ b 4 _ _ v4 h4
    rwa [show (#[v0, v1, v2, v3, u4, u5] : Array Value).setIfInBounds 4 v4 = #[v0, v1, v2, v3, v4, u5] from rfl] at this
  have h6 : MBlk ((((((w.setCell ⟨b, 0, none⟩ v0).setCell ⟨b, 1, none⟩ v1).setCell ⟨b, 2, none⟩ v2).setCell ⟨b, 3, none⟩ v3).setCell ⟨b, 4, none⟩ v4).setCell ⟨b, 5, none⟩ v5) b #[v0, v1, v2, v3, v4, v5] T := by
    have := heap_setCell_same _ b 5 _ _ v5 h5
    rwa [show (#[v0, v1, v2, v3, v4, u5] : Array Value).setIfInBounds 5 v5 = #[v0, v1, v2, v3, v4, v5] from rfl] at this
  exact h6
theorem below_sets {B : Nat} {v x : World} {s2 s3 : Nat} (h : Below B v x) (h2 : B ≤ s2) (h3 : B ≤ s3) (us30 us35 us20 us21 us22 us23 us24 us25 : Value) : Below B v ((((((((x.setCell ⟨s3, 0, none⟩ us30).setCell ⟨s3, 5, none⟩ us35).setCell ⟨s2, 0, none⟩ us20).setCell ⟨s2, 1, none⟩ us21).setCell ⟨s2, 2, none⟩ us22).setCell ⟨s2, 3, none⟩ us23).setCell ⟨s2, 4, none⟩ us24).setCell ⟨s2, 5, none⟩ us25) :=
  ((((((((h.setCell (p := ⟨s3, 0, none⟩) h3 us30).setCell (p := ⟨s3, 5, none⟩) h3 us35).setCell (p := ⟨s2, 0, none⟩) h2 us20).setCell (p := ⟨s2, 1, none⟩) h2 us21).setCell (p := ⟨s2, 2, none⟩) h2 us22).setCell (p := ⟨s2, 3, none⟩) h2 us23).setCell (p := ⟨s2, 4, none⟩) h2 us24).setCell (p := ⟨s2, 5, none⟩) h2 us25)
end Go.Proofs.YtbfalppeifkjdaaGreatDoor
end
