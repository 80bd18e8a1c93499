/- Packed from the texts MeQ. -/
import Derived.Test.YtbfalppeifkjdaaGreatDoorXMeJ
import Derived.Test.YtbfalppeifkjdaaGreatDoorXk7
import Derived.Test.YtbfalppeifkjdaaGreatDoorXl6
import Derived.Test.YtbfalppeifkjdaaGreatDoorXl8
import Derived.Laws.OwnMore
section
namespace Go.Proofs.YtbfalppeifkjdaaGreatDoor
open Go.RowKit
def FSmU (f : FeedD) : Prop := FSm f ∧ -9223372036854775808 ≤ f.upd ∧ f.upd ≤ 9223372036854775807
theorem bare_smallU {f : FeedD} (h : FSmU f) : FSmU (bareF f) := ⟨⟨h.1.id, h.1.title, h.1.link, h.1.path, h.1.plen, h.1.qu, fun e he => (by cases he), Nat.zero_le _⟩, h.2⟩
theorem ltF_smallU {f g : FeedD} (hf : FSmU f) (hg : FSmU g) : FSmU (ltF f g) := by
  unfold ltF
  split
  · exact bare_smallU hg
  · exact bare_smallU hf
theorem bare_mx (a b : FeedD) : bareF (mxB cmpKF a b) = mxB cmpKF (bareF a) (bareF b) := by
  unfold mxB
  rw [show cmpKF (bareF a) (bareF b) = cmpKF a b from rfl]
  split <;> rfl
theorem mq_far {w : World} {b k o : Nat} {T : TypeId} {cs : Array Value} (h : MBlk w b cs T) (hne : b ≠ k) (v : Value) : MBlk (w.setCell ⟨k, o, none⟩ v) b cs T := by
  unfold MBlk
  rw [Below.heap_setCell _ _ _ _ hne]
  exact h
theorem mq_far6 {w : World} {b k : Nat} {T : TypeId} {cs : Array Value} (h : MBlk w b cs T) (hne : b ≠ k) (v0 v1 v2 v3 v4 v5 : Value) : MBlk ((((((w.setCell ⟨k, 0, none⟩ v0).setCell ⟨k, 1, none⟩ v1).setCell ⟨k, 2, none⟩ v2).setCell ⟨k, 3, none⟩ v3).setCell ⟨k, 4, none⟩ v4).setCell ⟨k, 5, none⟩ v5) b cs T := mq_far (mq_far (mq_far (mq_far (mq_far (mq_far h hne _) hne _) hne _) hne _) hne _) hne _
theorem mq_belowset6 {B : Nat} {v w : World} {k : Nat} (h : Below B v w) (hk : B ≤ k) (v0 v1 v2 v3 v4 v5 : Value) : Below B v ((((((w.setCell ⟨k, 0, none⟩ v0).setCell ⟨k, 1, none⟩ v1).setCell ⟨k, 2, none⟩ v2).setCell ⟨k, 3, none⟩ v3).setCell ⟨k, 4, none⟩ v4).setCell ⟨k, 5, none⟩ v5) :=
  ((((((h.setCell (p := ⟨k, 0, none⟩) hk v0).setCell (p := ⟨k, 1, none⟩) hk v1).setCell (p := ⟨k, 2, none⟩) hk v2).setCell (p := ⟨k, 3, none⟩) hk v3).setCell (p := ⟨k, 4, none⟩) hk v4).setCell (p := ⟨k, 5, none⟩) hk v5)
theorem mq_key {f : FeedD} (h : FSmU f) (v : Value) (w : World) (hF : FeedIs w f v) (hT : TabW w) : Calls Tryz.prog 97 #[v] w fun e w' => e = .returned (.string (ofBytes (fkL f))) ∧ Below w.heap.size w w' :=
  mc_FeedKey f v w hF (by have := h.1.qu; omega) (by have := h.1.id; have := h.1.title; have := h.1.link; omega) (by have := h.1.plen; omega) h.2.1 h.2.2 hT
theorem mq_later {f g : FeedD} (hf : FSmU f) (hg : FSmU g) (v u : Value) (w : World) (hF : FeedIs w f v) (hG : FeedIs w g u) (hT : TabW w) : Calls Tryz.prog 80 #[v, u] w fun e w' => ∃ p' c', e = .returned (.agg #[.slice p' (ltF f g).path.length c', .string (ltF f g).id, .string (ltF f g).title, .string (ltF f g).link, .int .i64 (ltF f g).upd, .slice none 0 0]) ∧ w'.ownsRow w.heap.size 9 1 (.slice p' (ltF f g).path.length c') (ltF f g).path.length ((ltF f g).path.map Value.string) ∧ Below w.heap.size w w' :=
  mc_LaterFeed f g v u w hF hG (by have := hf.1.plen; omega) (by have := hg.1.plen; omega) (fun wx hb => mq_key hf v wx (hF.below hb) (TabW_below hT hb)) (fun wx hb => mq_key hg u wx (hG.below hb) (TabW_below hT hb))
end Go.Proofs.YtbfalppeifkjdaaGreatDoor
end
