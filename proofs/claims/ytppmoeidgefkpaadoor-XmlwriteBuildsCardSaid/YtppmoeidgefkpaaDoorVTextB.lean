/- Packed from the texts TextB. -/
import Derived.Test.YtppmoeidgefkpaaDoorVTextS
import Derived.Below
section
namespace Go.Proofs.YtppmoeidgefkpaaDoor
open Go.RowKit
def HasSpans (w : World) : Prop := ∃ b o cap, w.cell? ⟨2, 0, none⟩ = some (.slice (some ⟨b, o, none⟩) 20 cap) ∧
  ∀ i, i < 20 → w.cell? ⟨b, o + i * 3, none⟩ = some (.int .i32 (spanLo i)) ∧ w.cell? ⟨b, o + i * 3 + 1, none⟩ = some (.int .i32 (spanHi i)) ∧ w.cell? ⟨b, o + i * 3 + 2, none⟩ = some (.bool (spanSt i))
theorem block_lt {w : World} {a : Addr} {v : Value} (hc : w.cell? a = some v) : a.block < w.heap.size := by
  rcases Nat.lt_or_ge a.block w.heap.size with h' | h'
  · exact h'
  · simp [World.cell?, Array.getElem?_eq_none h'] at hc
theorem HasSpans_below {w w' : World} (h : HasSpans w) (hb : Below w.heap.size w w') : HasSpans w' := by
  obtain ⟨b, o, cap, h0, h⟩ := h
  refine ⟨b, o, cap, (hb.cell (block_lt h0)).trans h0, fun i hi => ?_⟩
  obtain ⟨h1, h2, h3⟩ := h i hi
  exact ⟨(hb.cell (block_lt h1)).trans h1, (hb.cell (block_lt h2)).trans h2, (hb.cell (block_lt h3)).trans h3⟩
theorem bcell {B : Nat} {W w1 : World} (hb : Below B W w1) : (∀ b o, b < B → w1.cell? ⟨b, o, none⟩ = W.cell? ⟨b, o, none⟩) ∧ (∀ b o, b < B → w1.frozen? ⟨b, o, none⟩ = W.frozen? ⟨b, o, none⟩) :=
  ⟨fun b o h => hb.cell (p := ⟨b, o, none⟩) h, fun b o h => hb.frozen (p := ⟨b, o, none⟩) h⟩
set_option maxHeartbeats 1000000 in
theorem text_findNameSpan (r : Int) (w : World) (hT : HasSpans w) :
    Calls Tryd.prog 60 #[.int .i32 r] w fun e w' => e = .returned (.tuple #[.agg #[.int .i32 (spanOf r).1, .int .i32 (spanOf r).2.1, .bool (spanOf r).2.2], .bool (inSpan r)]) ∧ Below w.heap.size w w' := by
  obtain ⟨b, o, cap, h0, hT⟩ := hT
  have hlt1 := block_lt h0
  simp only at hlt1
  have hlt0 : b < w.heap.size := block_lt (hT 0 (by omega)).1
  go_enter Tryd.func60, Tryd.ntmps60
  go_wp2
  go_loopw [8] (fun i wr => ∃ k : Nat, k ≤ 20 ∧ i = .int .i64 k ∧ findSpan r spans = findSpan r (spans.drop k) ∧ Below (w.heap.size + 1) (w.alloc (.cells #[.int .i32 0, .int .i32 0, .bool false] 88)) wr) (fun i _ => 20 - (intOf i).toNat)
  case atStart => exact ⟨0, by omega, rfl, rfl, Below.refl _ _⟩
  case round =>
    obtain ⟨k, hk, rfl, hf, hbel⟩ := hrel
    have HF := Lib.hid hf
    clear hf
    obtain ⟨hc, hfz⟩ := bcell hbel
    have hz : w.heap.size < wr.heap.size := by have := hbel.size; simp at this; omega
    have e0 : wr.cell? ⟨w.heap.size, 0, none⟩ = some (.int .i32 0) := by rw [hc _ _ (by omega)]; simp
    have e1 : wr.cell? ⟨w.heap.size, 1, none⟩ = some (.int .i32 0) := by rw [hc _ _ (by omega)]; simp
    have e2 : wr.cell? ⟨w.heap.size, 2, none⟩ = some (.bool false) := by rw [hc _ _ (by omega)]; simp
    have f0 : ∀ o, wr.frozen? ⟨w.heap.size, o, none⟩ = false := fun o => by rw [hfz _ _ (by omega)]; simp
    have hbel' := (Below.refl w.heap.size w).alloc (Nat.le_refl _) (.cells #[.int .i32 0, .int .i32 0, .bool false] 88)
    have hbw : Below w.heap.size w wr := hbel'.trans (hbel.mono (by omega))
    by_cases hlt : k < 20
    · have hT' := hT k hlt
      have c1 : wr.cell? ⟨b, o + k * 3, none⟩ = some (.int .i32 (spanLo k)) := (hbw.cell hlt0).trans hT'.1
      have c2 : wr.cell? ⟨b, o + k * 3 + 1, none⟩ = some (.int .i32 (spanHi k)) := (hbw.cell hlt0).trans hT'.2.1
      have c3 : wr.cell? ⟨b, o + k * 3 + 2, none⟩ = some (.bool (spanSt k)) := (hbw.cell hlt0).trans hT'.2.2
      clear hc hfz hT hT' h0
      go_wp2
      · have hn := find_none r k hlt (by assumption)
        refine bodyPost_ret (v := .tuple #[.agg #[.int .i32 0, .int .i32 0, .bool false], .bool false]) (by simp [results, Tryd.results60, go_sem, *]) rfl ⟨?_, ?_⟩
        · rw [spanOf, inSpan, HF.out, hn]
        · (repeat (first | exact hbw | apply Below.drew | (refine Below.setCell ?_ (by first | omega | (simp; done) | (simp; omega)) _) | (refine Below.alloc ?_ (by first | omega | (simp; done) | (simp; omega)) _)))
      · have hn := find_hit r k hlt (by omega) (by assumption)
        refine bodyPost_ret (v := .tuple #[.agg #[.int .i32 (spanLo k), .int .i32 (spanHi k), .bool (spanSt k)], .bool true]) (by simp [results, Tryd.results60, go_sem, *]) rfl ⟨?_, ?_⟩
        · rw [spanOf, inSpan, HF.out, hn]
        · (repeat (first | exact hbw | apply Below.drew | (refine Below.setCell ?_ (by first | omega | (simp; done) | (simp; omega)) _) | (refine Below.alloc ?_ (by first | omega | (simp; done) | (simp; omega)) _)))
      · have hn := find_next r k hlt (by omega) (by omega)
        go_roundw
        case rel => exact ⟨k + 1, by omega, by go_num, by rw [HF.out, hn], by (repeat (first | exact hbel | apply Below.drew | (refine Below.setCell ?_ (by first | omega | (simp; done) | (simp; omega)) _) | (refine Below.alloc ?_ (by first | omega | (simp; done) | (simp; omega)) _)))⟩
        case measure => simp [intOf]; omega
    · obtain rfl : k = 20 := by omega
      clear hc hfz hT h0
      go_wp2
      refine bodyPost_ret (v := .tuple #[.agg #[.int .i32 0, .int .i32 0, .bool false], .bool false]) (by simp [results, Tryd.results60, go_sem, *]) rfl ⟨?_, ?_⟩
      · rw [spanOf, inSpan, HF.out]; rfl
      · (repeat (first | exact hbw | apply Below.drew | (refine Below.setCell ?_ (by first | omega | (simp; done) | (simp; omega)) _) | (refine Below.alloc ?_ (by first | omega | (simp; done) | (simp; omega)) _)))
end Go.Proofs.YtppmoeidgefkpaaDoor
end
