/- Packed from the texts JvL. -/
import Derived.Test.YtkkiklaoljdhhaaGreatDoorYJvV
import Derived.Test.YtkkiklaoljdhhaaGreatDoorYLate
import Derived.Test.YtkkiklaoljdhhaaGreatDoorYkE
import Derived.Test.YtkkiklaoljdhhaaGreatDoorYkN
import Derived.Deep.AppendLies
import Derived.Deep.Cut
section
namespace Go.Proofs.YtkkiklaoljdhhaaGreatDoor
open Go.RowKit
theorem jgb {B : Nat} {a w w' : World} {g : Nat} (h : Below B a w) (hg : w.grownBy w' (some g)) (hz : B ≤ w.heap.size) (hr : B ≤ g) : Below B a w' := h.grown hg hz (fun k e => by injection e with e; omega)
theorem jheap_grown {w w' : World} {g b : Nat} {x : Obj} (hg : w.grownBy w' (some g)) (hne : b ≠ g) (h : w.heap[b]? = some x) : w'.heap[b]? = some x := by
  have hlt : b < w.heap.size := (Array.getElem?_eq_some_iff.1 h).1
  exact (hg.block b hlt (fun e => by injection e with e; omega)).trans h
theorem jrow_base {w : World} {B B' : Nat} {e : TypeId} {k n : Nat} {v : Value} {xs : List Value} (h : w.ownsRow B' e k v n xs) (hb : B ≤ B') : w.ownsRow B e k v n xs := by
  refine ⟨h.1, ?_⟩
  rcases h.2 with hn | ⟨g, cap, cur, hv, hg, rest⟩
  · exact .inl hn
  · exact .inr ⟨g, cap, cur, hv, by omega, rest⟩
theorem vrow_one {w : World} {X : Nat → Bool} : ∀ (l : List ValD) (xs : List Value), VRow w X l xs → ∀ u ∈ xs, u.oneCell' = true
  | [], xs, h, u, hu => by rw [VRow] at h; subst h; cases hu
  | k :: r, xs, h, u, hu => by
    rw [VRow] at h
    obtain ⟨v0, v1, v2, v3, v4, v5, v6, ys, rfl, hv, hr⟩ := h
    obtain ⟨p, c, q, d, e, -, -⟩ := (val_is _ _ _).1 hv
    simp only [Value.agg.injEq, Array.mk.injEq, List.cons.injEq, and_true] at e
    obtain ⟨rfl, rfl, rfl, rfl, rfl, rfl, rfl⟩ := e
    simp only [List.mem_cons] at hu
    rcases hu with rfl | rfl | rfl | rfl | rfl | rfl | rfl | hu
    all_goals first | rfl | exact vrow_one r ys hr u hu
theorem mrow_one {w : World} {X : Nat → Bool} : ∀ (l : List MemD) (xs : List Value), MRow w X l xs → ∀ u ∈ xs, u.oneCell' = true
  | [], xs, h, u, hu => by rw [MRow] at h; subst h; cases hu
  | k :: r, xs, h, u, hu => by
    rw [MRow] at h
    obtain ⟨v0, v1, v2, v3, v4, v5, v6, ys, rfl, hv, hr⟩ := h
    obtain ⟨p, c, q, d, e, -, -⟩ := (val_is _ _ _).1 hv
    simp only [Value.agg.injEq, Array.mk.injEq, List.cons.injEq, and_true] at e
    obtain ⟨rfl, rfl, rfl, rfl, rfl, rfl, rfl⟩ := e
    simp only [List.mem_cons] at hu
    rcases hu with rfl | rfl | rfl | rfl | rfl | rfl | rfl | rfl | rfl | hu
    all_goals first | rfl | exact mrow_one r ys hr u hu
theorem vrow_push {wr w1 W : World} {B n1 g : Nat} {own : Option Nat} {st : List ValD} {xs : List Value} {v : ValD} {v0 v1 v2 v3 v4 v5 v6 : Value} (hr : VRow wr (lowx B own) st xs) (hx : ValIs (sans w1 (low n1)) v (.agg #[v0, v1, v2, v3, v4, v5, v6])) (hB : B ≤ n1) (hn : wr.heap.size ≤ n1) (hz : wr.heap.size ≤ w1.heap.size) (hol : ∀ k, own = some k → k < wr.heap.size) (hat : w1.heap.size ≤ g)
    (hold : ∀ k, k < wr.heap.size → B ≤ k → w1.heap[k]? = wr.heap[k]?) (hW : ∀ k, k < w1.heap.size → B ≤ k → own ≠ some k → W.heap[k]? = w1.heap[k]?) : VRow W (lowx B (some g)) (st ++ [v]) (xs ++ [v0, v1, v2, v3, v4, v5, v6]) := by
  refine VRow.snoc (hx.go (fun k hk hno => ?_)) st xs (VRow.go (fun k hk hno => ?_) st xs hr)
  · have hkn := low_no hno
    have ho : own ≠ some k := fun e => by have := hol k e; omega
    exact ⟨lowx_ok (by omega) (fun e => by injection e with e; omega), hW k hk (by omega) ho⟩
  · obtain ⟨h1, h2⟩ := lowx_no hno
    exact ⟨lowx_ok h1 (fun e => by injection e with e; omega), (hW k (by omega) h1 h2).trans (hold k hk h1)⟩
theorem mrow_push {wr w1 W : World} {B n1 g : Nat} {own : Option Nat} {st : List MemD} {xs : List Value} {m : MemD} {v0 v1 v2 v3 v4 v5 v6 : Value} (hr : MRow wr (lowx B own) st xs) (hx : ValIs (sans w1 (low n1)) m.v (.agg #[v0, v1, v2, v3, v4, v5, v6])) (hB : B ≤ n1) (hn : wr.heap.size ≤ n1) (hz : wr.heap.size ≤ w1.heap.size) (hol : ∀ k, own = some k → k < wr.heap.size) (hat : w1.heap.size ≤ g)
    (hold : ∀ k, k < wr.heap.size → B ≤ k → w1.heap[k]? = wr.heap[k]?) (hW : ∀ k, k < w1.heap.size → B ≤ k → own ≠ some k → W.heap[k]? = w1.heap[k]?) : MRow W (lowx B (some g)) (st ++ [m]) (xs ++ [.string m.key, v0, v1, v2, v3, v4, v5, v6, .int .i64 m.at']) := by
  refine MRow.snoc (hx.go (fun k hk hno => ?_)) st xs (MRow.go (fun k hk hno => ?_) st xs hr)
  · have hkn := low_no hno
    have ho : own ≠ some k := fun e => by have := hol k e; omega
    exact ⟨lowx_ok (by omega) (fun e => by injection e with e; omega), hW k hk (by omega) ho⟩
  · obtain ⟨h1, h2⟩ := lowx_no hno
    exact ⟨lowx_ok h1 (fun e => by injection e with e; omega), (hW k (by omega) h1 h2).trans (hold k hk h1)⟩
theorem vst_info : (Tryz.prog.info? 26).map (fun i => (i.zero, i.size, i.bytes)) = some (some (.agg #[.int .i64 0, .bool false, .int .i64 0, .string ⟨#[]⟩, .slice none 0 0, .slice none 0 0, .int .i64 0]), 7, 96) := by kernel_rfl
theorem vst_made (w : World) (B : Nat) (hB : B ≤ w.heap.size) : (w.alloc (.cells #[] 26)).ownsRow B 26 7 (.slice (some ⟨w.heap.size, 0, none⟩) 0 0) 0 [] :=
  World.ownsRow_made w #[] 0 hB (Nat.zero_le _) rfl
theorem vst_news {wq W : World} {B g n cap : Nat} {xs : List Value} (h : wq.ownsRow B 26 7 (.slice (some ⟨g, 0, none⟩) n cap) n xs) (hb : Below wq.heap.size wq W) : ∀ j u, xs[j]? = some u → W.cell? ((⟨g, 0, none⟩ : Addr).add j) = some u :=
  fun j u hu => (jrow_below h hb).cells (g := g) rfl j u hu
section
variable {ops : Array Oper} {o : Oper} {a : Act} {w : World} {K : Act → World → Prop} {Q : Exit → Act → World → Prop} {E : Prop}
theorem vst_copy (hgd : o.guard = none) (s x : Operand) (ho : o.op = .call { callee := .builtin .append, args := #[s, x], argTypes := #[23, 23] }) (B b g n cap : Nat) (xs : List Value)
    (hs : a.eval s = .slice (some ⟨b, 0, none⟩) 0 0) (hx : a.eval x = .slice (some ⟨g, 0, none⟩) n cap) (hown : w.ownsRow B 26 7 (.slice (some ⟨b, 0, none⟩) 0 0) 0 []) (hl : xs.length = n * 7)
    (hnews : ∀ j u, xs[j]? = some u → w.cell? ((⟨g, 0, none⟩ : Addr).add j) = some u) (h1 : ∀ u ∈ xs, u.oneCell' = true) (hm : 0 < n) (hn : n ≤ 1000000000) (hB : B ≤ w.heap.size)
    (h : ∀ g' cap' w', w'.ownsRow B 26 7 (.slice (some ⟨g', 0, none⟩) n cap') n xs → w.grownBy w' (some b) → B ≤ g' → K (a.put o.dst (.slice (some ⟨g', 0, none⟩) n cap')) w') : if Region.wanted o (yielded ops a.tmps) = true then Oper.wp Tryz.prog o a w K Q else E := by
  obtain ⟨i0, hi0, hi1, hi3, hi4⟩ := info_parts vst_info
  refine step_append_lies w hgd s x 23 ho B 26 i0 (.agg #[.int .i64 0, .bool false, .int .i64 0, .string ⟨#[]⟩, .slice none 0 0, .slice none 0 0, .int .i64 0]) 7 96 Tryz.underlying23 hi0 hi1 hi3 hi4 rfl (by decide) _ 0 [] hs hown ⟨g, 0, none⟩ n cap xs hx hl hnews h1 hm (by unfold maxLen; omega) (by omega) hB w.heap.size rfl ?_
  intro g' cap' w' hown' hgrow _ _
  rw [Nat.zero_add, List.nil_append] at hown'
  rw [Nat.zero_add]
  obtain ⟨g2, c2, e, hb, _⟩ := hown'.form hm
  injection e with e1 _ _
  injection e1 with e1
  injection e1 with e1 _ _
  exact h g' cap' w' hown' hgrow (by omega)
theorem vst_one (hgd : o.guard = none) (s x : Operand) (ho : o.op = .call { callee := .builtin .append, args := #[s, x], argTypes := #[23, 23] }) (B b n : Nat) (xs : List Value) (v c0 c1 c2 c3 c4 c5 c6 : Value)
    (hs : a.eval s = v) (hx : a.eval x = .slice (some ⟨b, 0, none⟩) 1 1) (hown : w.ownsRow B 26 7 v n xs) (hblk : w.heap[b]? = some (.cells #[c0, c1, c2, c3, c4, c5, c6] 26 (0, 0)))
    (h1 : ∀ u ∈ [c0, c1, c2, c3, c4, c5, c6], u.oneCell' = true) (hn : n ≤ 1000000000) (hB : B ≤ w.heap.size)
    (h : ∀ g' cap' w', w'.ownsRow B 26 7 (.slice (some ⟨g', 0, none⟩) (n + 1) cap') (n + 1) (xs ++ [c0, c1, c2, c3, c4, c5, c6]) → w.grownBy w' v.ownBlock → K (a.put o.dst (.slice (some ⟨g', 0, none⟩) (n + 1) cap')) w') : if Region.wanted o (yielded ops a.tmps) = true then Oper.wp Tryz.prog o a w K Q else E := by
  obtain ⟨i0, hi0, hi1, hi3, hi4⟩ := info_parts vst_info
  refine step_append_lies w hgd s x 23 ho B 26 i0 (.agg #[.int .i64 0, .bool false, .int .i64 0, .string ⟨#[]⟩, .slice none 0 0, .slice none 0 0, .int .i64 0]) 7 96 Tryz.underlying23 hi0 hi1 hi3 hi4 rfl (by decide) v n xs hs hown ⟨b, 0, none⟩ 1 1 [c0, c1, c2, c3, c4, c5, c6] hx rfl (World.news_of_block hblk) h1 (by decide) (by unfold maxLen; omega) (by omega) hB w.heap.size rfl ?_
  intro g' cap' w' hown' hgrow _ _
  exact h g' cap' w' hown' hgrow
end
theorem mst_info : (Tryz.prog.info? 44).map (fun i => (i.zero, i.size, i.bytes)) = some (some (.agg #[.string ⟨#[]⟩, .int .i64 0, .bool false, .int .i64 0, .string ⟨#[]⟩, .slice none 0 0, .slice none 0 0, .int .i64 0, .int .i64 0]), 9, 120) := by kernel_rfl
theorem mst_made (w : World) (B : Nat) (hB : B ≤ w.heap.size) : (w.alloc (.cells #[] 44)).ownsRow B 44 9 (.slice (some ⟨w.heap.size, 0, none⟩) 0 0) 0 [] :=
  World.ownsRow_made w #[] 0 hB (Nat.zero_le _) rfl
theorem mst_news {wq W : World} {B g n cap : Nat} {xs : List Value} (h : wq.ownsRow B 44 9 (.slice (some ⟨g, 0, none⟩) n cap) n xs) (hb : Below wq.heap.size wq W) : ∀ j u, xs[j]? = some u → W.cell? ((⟨g, 0, none⟩ : Addr).add j) = some u :=
  fun j u hu => (jrow_below h hb).cells (g := g) rfl j u hu
section
variable {ops : Array Oper} {o : Oper} {a : Act} {w : World} {K : Act → World → Prop} {Q : Exit → Act → World → Prop} {E : Prop}
theorem mst_copy (hgd : o.guard = none) (s x : Operand) (ho : o.op = .call { callee := .builtin .append, args := #[s, x], argTypes := #[24, 24] }) (B b g n cap : Nat) (xs : List Value)
    (hs : a.eval s = .slice (some ⟨b, 0, none⟩) 0 0) (hx : a.eval x = .slice (some ⟨g, 0, none⟩) n cap) (hown : w.ownsRow B 44 9 (.slice (some ⟨b, 0, none⟩) 0 0) 0 []) (hl : xs.length = n * 9)
    (hnews : ∀ j u, xs[j]? = some u → w.cell? ((⟨g, 0, none⟩ : Addr).add j) = some u) (h1 : ∀ u ∈ xs, u.oneCell' = true) (hm : 0 < n) (hn : n ≤ 1000000000) (hB : B ≤ w.heap.size)
    (h : ∀ g' cap' w', w'.ownsRow B 44 9 (.slice (some ⟨g', 0, none⟩) n cap') n xs → w.grownBy w' (some b) → B ≤ g' → K (a.put o.dst (.slice (some ⟨g', 0, none⟩) n cap')) w') : if Region.wanted o (yielded ops a.tmps) = true then Oper.wp Tryz.prog o a w K Q else E := by
  obtain ⟨i0, hi0, hi1, hi3, hi4⟩ := info_parts mst_info
  refine step_append_lies w hgd s x 24 ho B 44 i0 (.agg #[.string ⟨#[]⟩, .int .i64 0, .bool false, .int .i64 0, .string ⟨#[]⟩, .slice none 0 0, .slice none 0 0, .int .i64 0, .int .i64 0]) 9 120 Tryz.underlying24 hi0 hi1 hi3 hi4 rfl (by decide) _ 0 [] hs hown ⟨g, 0, none⟩ n cap xs hx hl hnews h1 hm (by unfold maxLen; omega) (by omega) hB w.heap.size rfl ?_
  intro g' cap' w' hown' hgrow _ _
  rw [Nat.zero_add, List.nil_append] at hown'
  rw [Nat.zero_add]
  obtain ⟨g2, c2, e, hb, _⟩ := hown'.form hm
  injection e with e1 _ _
  injection e1 with e1
  injection e1 with e1 _ _
  exact h g' cap' w' hown' hgrow (by omega)
theorem mst_one (hgd : o.guard = none) (s x : Operand) (ho : o.op = .call { callee := .builtin .append, args := #[s, x], argTypes := #[24, 24] }) (B b n : Nat) (xs : List Value) (v c0 c1 c2 c3 c4 c5 c6 c7 c8 : Value)
    (hs : a.eval s = v) (hx : a.eval x = .slice (some ⟨b, 0, none⟩) 1 1) (hown : w.ownsRow B 44 9 v n xs) (hblk : w.heap[b]? = some (.cells #[c0, c1, c2, c3, c4, c5, c6, c7, c8] 44 (0, 0)))
    (h1 : ∀ u ∈ [c0, c1, c2, c3, c4, c5, c6, c7, c8], u.oneCell' = true) (hn : n ≤ 1000000000) (hB : B ≤ w.heap.size)
    (h : ∀ g' cap' w', w'.ownsRow B 44 9 (.slice (some ⟨g', 0, none⟩) (n + 1) cap') (n + 1) (xs ++ [c0, c1, c2, c3, c4, c5, c6, c7, c8]) → w.grownBy w' v.ownBlock → K (a.put o.dst (.slice (some ⟨g', 0, none⟩) (n + 1) cap')) w') : if Region.wanted o (yielded ops a.tmps) = true then Oper.wp Tryz.prog o a w K Q else E := by
  obtain ⟨i0, hi0, hi1, hi3, hi4⟩ := info_parts mst_info
  refine step_append_lies w hgd s x 24 ho B 44 i0 (.agg #[.string ⟨#[]⟩, .int .i64 0, .bool false, .int .i64 0, .string ⟨#[]⟩, .slice none 0 0, .slice none 0 0, .int .i64 0, .int .i64 0]) 9 120 Tryz.underlying24 hi0 hi1 hi3 hi4 rfl (by decide) v n xs hs hown ⟨b, 0, none⟩ 1 1 [c0, c1, c2, c3, c4, c5, c6, c7, c8] hx rfl (World.news_of_block hblk) h1 (by decide) (by unfold maxLen; omega) (by omega) hB w.heap.size rfl ?_
  intro g' cap' w' hown' hgrow _ _
  exact h g' cap' w' hown' hgrow
end
def NJ (N fo Kb : Nat) (vk c0 c1 c2 c3 c4 c5 c6 : Value) (w : World) : Prop := w.cell? ⟨N, fo, none⟩ = some vk ∧ w.cell? ⟨Kb, 0, none⟩ = some c0 ∧ w.cell? ⟨Kb, 1, none⟩ = some c1 ∧ w.cell? ⟨Kb, 2, none⟩ = some c2 ∧ w.cell? ⟨Kb, 3, none⟩ = some c3 ∧ w.cell? ⟨Kb, 4, none⟩ = some c4 ∧ w.cell? ⟨Kb, 5, none⟩ = some c5 ∧ w.cell? ⟨Kb, 6, none⟩ = some c6
theorem NJ.below {N fo Kb : Nat} {vk c0 c1 c2 c3 c4 c5 c6 : Value} {w w' : World} (h : NJ N fo Kb vk c0 c1 c2 c3 c4 c5 c6 w) {B : Nat} (hb : Below B w w') (hN : N < B) (hK : Kb < B) : NJ N fo Kb vk c0 c1 c2 c3 c4 c5 c6 w' := by
  obtain ⟨h0, h1, h2, h3, h4, h5, h6, h7⟩ := h
  exact ⟨(hb.cell (p := ⟨N, fo, none⟩) hN).trans h0, (hb.cell (p := ⟨Kb, 0, none⟩) hK).trans h1, (hb.cell (p := ⟨Kb, 1, none⟩) hK).trans h2, (hb.cell (p := ⟨Kb, 2, none⟩) hK).trans h3, (hb.cell (p := ⟨Kb, 3, none⟩) hK).trans h4, (hb.cell (p := ⟨Kb, 4, none⟩) hK).trans h5, (hb.cell (p := ⟨Kb, 5, none⟩) hK).trans h6, (hb.cell (p := ⟨Kb, 6, none⟩) hK).trans h7⟩
structure LsA (w : World) (i : Nat) (l : List ValD) (p : Option Addr) (c : Nat) (xs : List Value) (wr : World) : Prop where
  box : Bj wr (w.heap.size + 1) #[.int .i64 4, .bool false, .int .i64 0, .string ⟨#[]⟩, .slice p l.length c, .slice none 0 0, .int .i64 (i : Int)] 26
  res : Bj wr w.heap.size #[.int .i64 0, .bool false, .int .i64 0, .string ⟨#[]⟩, .slice none 0 0, .slice none 0 0, .int .i64 0, .int .i64 0, .int .i64 0] 54
  row : wr.ownsRow (w.heap.size + 2) 26 7 (.slice p l.length c) l.length xs
  vr : VRow wr (lowx (w.heap.size + 2) (Value.slice p l.length c).ownBlock) l xs
  below : Below w.heap.size w wr
  lt : w.heap.size + 2 ≤ wr.heap.size
theorem LsA.more {w wr w' : World} {i : Nat} {l : List ValD} {p : Option Addr} {c : Nat} {xs : List Value} (h : LsA w i l p c xs wr) (hb : Below wr.heap.size wr w') : LsA w i l p c xs w' :=
  ⟨h.box.more hb, h.res.more hb, jrow_below h.row hb, VRow.go (Gos.below hb) _ _ h.vr, h.below.trans (hb.mono h.below.size), Nat.le_trans h.lt hb.size⟩
theorem LsA.push {w wr w1 wq W5 : World} {i : Nat} {l : List ValD} {p : Option Addr} {c : Nat} {xs : List Value} {v : ValD} {v0 v1 v2 v3 v4 v5 v6 : Value} {g cap : Nat} (h : LsA w i l p c xs wr) (b1 : Below wr.heap.size wr w1) (hx : ValIs (sans w1 (low wr.heap.size)) v (.agg #[v0, v1, v2, v3, v4, v5, v6])) (bq : Below w1.heap.size w1 wq) (b5 : Below wq.heap.size wq W5)
    (hr : W5.ownsRow wq.heap.size 26 7 (.slice (some ⟨g, 0, none⟩) (l.length + 1) cap) (l.length + 1) (xs ++ [v0, v1, v2, v3, v4, v5, v6])) :
    LsA w i (l ++ [v]) (some ⟨g, 0, none⟩) cap (xs ++ [v0, v1, v2, v3, v4, v5, v6]) (W5.setCell ⟨w.heap.size + 1, 4, none⟩ (.slice (some ⟨g, 0, none⟩) (l.length + 1) cap)) ∧ (∀ k cs T, Bj wq k cs T → k ≠ w.heap.size + 1 → Bj (W5.setCell ⟨w.heap.size + 1, 4, none⟩ (.slice (some ⟨g, 0, none⟩) (l.length + 1) cap)) k cs T) := by
  have hz1 := b1.size
  have hzq := bq.size
  have hz5 := b5.size
  have hlt := h.lt
  have hg : wq.heap.size ≤ g := (hr.lt g rfl).1
  have hbW : ∀ k, k ≠ w.heap.size + 1 → (W5.setCell ⟨w.heap.size + 1, 4, none⟩ (.slice (some ⟨g, 0, none⟩) (l.length + 1) cap)).heap[k]? = W5.heap[k]? := fun k hk => Below.heap_setCell _ _ _ _ hk
  have b15 : Below w1.heap.size w1 W5 := bq.trans (b5.mono hzq)
  have hlen : (l ++ [v]).length = l.length + 1 := by rw [List.length_append, List.length_singleton]
  refine ⟨⟨?_, ?_, ?_, ?_, ?_, ?_⟩, fun k cs T hk hne => (hbW k hne).trans (hk.more b5)⟩
  · rw [hlen]
    exact ((h.box.more b1).more b15).set 4 _
  · exact (hbW _ (by omega)).trans ((h.res.more b1).more b15)
  · rw [hlen]
    exact jrow_same (jrow_base hr (by omega)) (fun k hk => hbW k (by have := (hr.lt k hk).1; omega))
  · have hlt' : ∀ k, (Value.slice p l.length c).ownBlock = some k → k < wr.heap.size := fun k hk => (h.row.lt k hk).2
    rw [hlen]
    exact vrow_push h.vr hx h.lt (Nat.le_refl _) hz1 hlt' (show w1.heap.size ≤ g by omega) (fun k hk _ => b1.block k hk) (fun k hk hB _ => (hbW k (by omega)).trans (b15.block k hk))
  · exact (((h.below.trans (b1.mono h.below.size)).trans (b15.mono (by omega)))).setCell (by show _ ≤ w.heap.size + 1; omega) _
  · have : (W5.setCell ⟨w.heap.size + 1, 4, none⟩ (.slice (some ⟨g, 0, none⟩) (l.length + 1) cap)).heap.size = W5.heap.size := by simp [World.setCell]
    omega
theorem LsA.done {w wr W' : World} {i : Nat} {l : List ValD} {p : Option Addr} {c : Nat} {xs : List Value} (h : LsA w i l p c xs wr) (hP : Pj (fun b => b = w.heap.size) wr W') {u k n : Nat} (hk : u + k ≤ n) {y : Int} (hy : y = ((u + k : Nat) : Int)) :
    ResIs W' w.heap.size n u (.ok (.mk 4 false 0 ⟨#[]⟩ l [] i) k) (resV 4 false 0 ⟨#[]⟩ p l.length c none 0 0 i y 0) ∧ Below w.heap.size w W' := by
  subst hy
  refine ⟨⟨hk, p, c, none, 0, rfl, ?_, by show MemsAt _ none 0 []; rw [MemsAt]; trivial⟩, hP.below h.below (fun b hb => by omega) h.below.size⟩
  exact ItemsAt.mono (fun a u hc => (Gos.trans (Gos.part (X := low (w.heap.size + 2)) (hP.mono fun b _ hb => by subst hb; simp [low])) (Gos.low (by omega)) hP.size).cell a u hc) _ _ _ (VRow.whole h.row h.vr rfl)
structure LsO (w : World) (i : Nat) (l : List MemD) (p : Option Addr) (c : Nat) (xs : List Value) (wr : World) : Prop where
  box : Bj wr (w.heap.size + 1) #[.int .i64 5, .bool false, .int .i64 0, .string ⟨#[]⟩, .slice none 0 0, .slice p l.length c, .int .i64 (i : Int)] 26
  res : Bj wr w.heap.size #[.int .i64 0, .bool false, .int .i64 0, .string ⟨#[]⟩, .slice none 0 0, .slice none 0 0, .int .i64 0, .int .i64 0, .int .i64 0] 54
  row : wr.ownsRow (w.heap.size + 2) 44 9 (.slice p l.length c) l.length xs
  vr : MRow wr (lowx (w.heap.size + 2) (Value.slice p l.length c).ownBlock) l xs
  below : Below w.heap.size w wr
  lt : w.heap.size + 2 ≤ wr.heap.size
theorem LsO.more {w wr w' : World} {i : Nat} {l : List MemD} {p : Option Addr} {c : Nat} {xs : List Value} (h : LsO w i l p c xs wr) (hb : Below wr.heap.size wr w') : LsO w i l p c xs w' :=
  ⟨h.box.more hb, h.res.more hb, jrow_below h.row hb, MRow.go (Gos.below hb) _ _ h.vr, h.below.trans (hb.mono h.below.size), Nat.le_trans h.lt hb.size⟩
theorem LsO.push {w wr w1 wq W5 : World} {i : Nat} {l : List MemD} {p : Option Addr} {c : Nat} {xs : List Value} {v : MemD} {v0 v1 v2 v3 v4 v5 v6 : Value} {g cap : Nat} (h : LsO w i l p c xs wr) (b1 : Below wr.heap.size wr w1) (hx : ValIs (sans w1 (low wr.heap.size)) v.v (.agg #[v0, v1, v2, v3, v4, v5, v6])) (bq : Below w1.heap.size w1 wq) (b5 : Below wq.heap.size wq W5)
    (hr : W5.ownsRow wq.heap.size 44 9 (.slice (some ⟨g, 0, none⟩) (l.length + 1) cap) (l.length + 1) (xs ++ [.string v.key, v0, v1, v2, v3, v4, v5, v6, .int .i64 v.at'])) :
    LsO w i (l ++ [v]) (some ⟨g, 0, none⟩) cap (xs ++ [.string v.key, v0, v1, v2, v3, v4, v5, v6, .int .i64 v.at']) (W5.setCell ⟨w.heap.size + 1, 5, none⟩ (.slice (some ⟨g, 0, none⟩) (l.length + 1) cap)) ∧ (∀ k cs T, Bj wq k cs T → k ≠ w.heap.size + 1 → Bj (W5.setCell ⟨w.heap.size + 1, 5, none⟩ (.slice (some ⟨g, 0, none⟩) (l.length + 1) cap)) k cs T) := by
  have hz1 := b1.size
  have hzq := bq.size
  have hz5 := b5.size
  have hlt := h.lt
  have hg : wq.heap.size ≤ g := (hr.lt g rfl).1
  have hbW : ∀ k, k ≠ w.heap.size + 1 → (W5.setCell ⟨w.heap.size + 1, 5, none⟩ (.slice (some ⟨g, 0, none⟩) (l.length + 1) cap)).heap[k]? = W5.heap[k]? := fun k hk => Below.heap_setCell _ _ _ _ hk
  have b15 : Below w1.heap.size w1 W5 := bq.trans (b5.mono hzq)
  have hlen : (l ++ [v]).length = l.length + 1 := by rw [List.length_append, List.length_singleton]
  refine ⟨⟨?_, ?_, ?_, ?_, ?_, ?_⟩, fun k cs T hk hne => (hbW k hne).trans (hk.more b5)⟩
  · rw [hlen]
    exact ((h.box.more b1).more b15).set 5 _
  · exact (hbW _ (by omega)).trans ((h.res.more b1).more b15)
  · rw [hlen]
    exact jrow_same (jrow_base hr (by omega)) (fun k hk => hbW k (by have := (hr.lt k hk).1; omega))
  · have hlt' : ∀ k, (Value.slice p l.length c).ownBlock = some k → k < wr.heap.size := fun k hk => (h.row.lt k hk).2
    rw [hlen]
    exact mrow_push h.vr hx h.lt (Nat.le_refl _) hz1 hlt' (show w1.heap.size ≤ g by omega) (fun k hk _ => b1.block k hk) (fun k hk hB _ => (hbW k (by omega)).trans (b15.block k hk))
  · exact (((h.below.trans (b1.mono h.below.size)).trans (b15.mono (by omega)))).setCell (by show _ ≤ w.heap.size + 1; omega) _
  · have : (W5.setCell ⟨w.heap.size + 1, 5, none⟩ (.slice (some ⟨g, 0, none⟩) (l.length + 1) cap)).heap.size = W5.heap.size := by simp [World.setCell]
    omega
theorem LsO.done {w wr W' : World} {i : Nat} {l : List MemD} {p : Option Addr} {c : Nat} {xs : List Value} (h : LsO w i l p c xs wr) (hP : Pj (fun b => b = w.heap.size) wr W') {u k n : Nat} (hk : u + k ≤ n) {y : Int} (hy : y = ((u + k : Nat) : Int)) :
    ResIs W' w.heap.size n u (.ok (.mk 5 false 0 ⟨#[]⟩ [] l i) k) (resV 5 false 0 ⟨#[]⟩ none 0 0 p l.length c i y 0) ∧ Below w.heap.size w W' := by
  subst hy
  refine ⟨⟨hk, none, 0, p, c, rfl, by show ItemsAt _ none 0 []; rw [ItemsAt]; trivial, ?_⟩, hP.below h.below (fun b hb => by omega) h.below.size⟩
  exact MemsAt.mono (fun a u hc => (Gos.trans (Gos.part (X := low (w.heap.size + 2)) (hP.mono fun b _ hb => by subst hb; simp [low])) (Gos.low (by omega)) hP.size).cell a u hc) _ _ _ (MRow.whole h.row h.vr rfl)
theorem LsO.keys {w wr : World} {i : Nat} {l : List MemD} {p : Option Addr} {c : Nat} {xs : List Value} (h : LsO w i l p c xs wr) : KeysAt wr p (l.map MemD.key) := fun j hj => by
  have hjl : j < l.length := by simpa using hj
  obtain ⟨a, v0, v1, v2, v3, v4, v5, v6, hp, ⟨h0, -⟩, -⟩ := MemsAt.get l 0 (MRow.whole h.row h.vr rfl) j hjl
  rw [Nat.zero_add] at h0
  exact ⟨a, hp, by rw [List.getElem_map]; exact (sans_cell h0).1⟩
theorem has_pre (L : List UInt8) (n : Nat) (t : List UInt8) : hasP L (n : Int) t = t.isPrefixOf (L.drop n) := by unfold hasP; rw [Int.toNat_natCast, decide_eq_true (by omega), Bool.true_and]
theorem hasP_lt (L : List UInt8) (n : Nat) (c : UInt8) (h : hasP L (n : Int) [c] = true) : n < L.length := by
  rw [has_pre] at h
  have := (List.isPrefixOf_iff_prefix.1 h).length_le
  rw [List.length_drop, List.length_singleton] at this
  omega
theorem head_list (L : List UInt8) (f i d : Nat) (obj : Bool) (hi : i < L.length) (hc : L.getD i 0 = if obj then 123 else 91) (hd : d ≤ 100) :
    headK (f + 1) i (L.drop i) d = if hasP L ((spP L (i + 1) : Nat) : Int) [endB obj] = true then .ok (.mk (kindB obj) false 0 ⟨#[]⟩ [] [] i) (spP L (i + 1) + 1 - i) else (listK f obj i [] [] (spP L (i + 1)) (L.drop (spP L (i + 1))) d).plus (spP L (i + 1) - i) := by
  have hne : L.drop i ≠ [] := fun e => by
    have := congrArg List.length e
    rw [List.length_drop] at this
    simp at this
    omega
  have hd1 : (L.drop i).drop 1 = L.drop (i + 1) := by rw [List.drop_drop]
  have hs := spP_spN L (i + 1)
  have hd2 : (L.drop i).drop (1 + spN (L.drop (i + 1))) = L.drop (spP L (i + 1)) := by rw [List.drop_drop, hs, Nat.add_assoc]
  have e1 : i + (1 + spN (L.drop (i + 1))) = spP L (i + 1) := by omega
  have e2 : 1 + spN (L.drop (i + 1)) + 1 = spP L (i + 1) + 1 - i := by omega
  have e3 : 1 + spN (L.drop (i + 1)) = spP L (i + 1) - i := by omega
  have ho : decide ((if obj then (123 : UInt8) else 91) = 123) = obj := by cases obj <;> rfl
  rw [headK, if_neg hne, getD_drop0, hc, hd1, hd2, e1, e2, ho, has_pre]
  rw [if_neg (by cases obj <;> decide), if_neg (by cases obj <;> decide), if_neg (by cases obj <;> decide), if_neg (by cases obj <;> decide), if_pos (by cases obj <;> decide), if_neg (by omega), e3]
theorem listK_A (L : List UInt8) (g fr u d : Nat) (items : List ValD) : listK (g + 1) false fr items [] u (L.drop u) d = match valK g (spP L u) (L.drop (spP L u)) (d + 1) with
    | .err a e => .err a e
    | .ok v kv => if hasP L ((spP L (spP L u + kv) : Nat) : Int) [93] = true then .ok (.mk 4 false 0 ⟨#[]⟩ (items ++ [v]) [] fr) (spP L (spP L u + kv) + 1 - u)
      else if hasP L ((spP L (spP L u + kv) : Nat) : Int) [44] = true then (listK g false fr (items ++ [v]) [] (spP L (spP L u + kv) + 1) (L.drop (spP L (spP L u + kv) + 1)) d).plus (spP L (spP L u + kv) + 1 - u)
      else .err (wrongK (spP L (spP L u + kv)) (L.drop (spP L (spP L u + kv)))).1 (wrongK (spP L (spP L u + kv)) (L.drop (spP L (spP L u + kv)))).2 := by
  have hs := spP_spN L u
  have hdd : ∀ k, (L.drop u).drop k = L.drop (u + k) := fun k => by rw [List.drop_drop]
  rw [listK]
  simp only [Bool.false_eq_true, if_false, Nat.add_zero, hdd, ← hs]
  rcases valK g (spP L u) (L.drop (spP L u)) (d + 1) with ⟨a, e⟩ | ⟨v, kv⟩
  · rfl
  · have hs2 := spP_spN L (spP L u + kv)
    have e0 : u + (spN (L.drop u) + kv) = spP L u + kv := by omega
    have e1 : u + (spN (L.drop u) + kv + spN (L.drop (spP L u + kv))) = spP L (spP L u + kv) := by omega
    have e2 : spN (L.drop u) + kv + spN (L.drop (spP L u + kv)) + 1 = spP L (spP L u + kv) + 1 - u := by omega
    have e3 : u + (spP L (spP L u + kv) + 1 - u) = spP L (spP L u + kv) + 1 := by omega
    simp only [e0, e1, e2, e3, has_pre]
    rfl
theorem listK_O (L : List UInt8) (g fr u d : Nat) (mems : List MemD) : listK (g + 1) true fr [] mems u (L.drop u) d = match keyK (spP L u) (L.drop (spP L u)) (mems.map MemD.key) with
    | .err a e => .err a e
    | .ok key k => match valK g (spP L u + k) (L.drop (spP L u + k)) (d + 1) with
      | .err a e => .err a e
      | .ok v kv => if hasP L ((spP L (spP L u + k + kv) : Nat) : Int) [125] = true then .ok (.mk 5 false 0 ⟨#[]⟩ [] (mems ++ [.mk (ofBytes key) v (spP L u : Nat)]) fr) (spP L (spP L u + k + kv) + 1 - u)
        else if hasP L ((spP L (spP L u + k + kv) : Nat) : Int) [44] = true then (listK g true fr [] (mems ++ [.mk (ofBytes key) v (spP L u : Nat)]) (spP L (spP L u + k + kv) + 1) (L.drop (spP L (spP L u + k + kv) + 1)) d).plus (spP L (spP L u + k + kv) + 1 - u)
        else .err (wrongK (spP L (spP L u + k + kv)) (L.drop (spP L (spP L u + k + kv)))).1 (wrongK (spP L (spP L u + k + kv)) (L.drop (spP L (spP L u + k + kv)))).2 := by
  have hs := spP_spN L u
  have hdd : ∀ k, (L.drop u).drop k = L.drop (u + k) := fun k => by rw [List.drop_drop]
  rw [listK]
  simp only [if_true, hdd, ← hs]
  rcases keyK (spP L u) (L.drop (spP L u)) (mems.map MemD.key) with ⟨a, e⟩ | ⟨key, k⟩
  · rfl
  · have e4 : u + (spN (L.drop u) + k) = spP L u + k := by omega
    simp only [e4]
    rcases valK g (spP L u + k) (L.drop (spP L u + k)) (d + 1) with ⟨a, e⟩ | ⟨v, kv⟩
    · rfl
    · have hs2 := spP_spN L (spP L u + k + kv)
      have e0 : u + (spN (L.drop u) + k + kv) = spP L u + k + kv := by omega
      have e1 : u + (spN (L.drop u) + k + kv + spN (L.drop (spP L u + k + kv))) = spP L (spP L u + k + kv) := by omega
      have e2 : spN (L.drop u) + k + kv + spN (L.drop (spP L u + k + kv)) + 1 = spP L (spP L u + k + kv) + 1 - u := by omega
      have e3 : u + (spP L (spP L u + k + kv) + 1 - u) = spP L (spP L u + k + kv) + 1 := by omega
      simp only [e0, e1, e2, e3, has_pre]
      rfl
theorem keyK_ne (i : Nat) (l : List UInt8) (keys : List ByteArray) (a e : Int) (h : keyK i l keys = .err a e) : e ≠ 0 := by
  have hw : ∀ i l, (wrongK i l).2 ≠ 0 := fun i l => by unfold wrongK; split <;> simp
  unfold keyK at h
  split at h
  · injection h with h1 h2; rw [← h2]; exact hw _ _
  split at h
  · rename_i hh
    injection h with h1 h2; rw [← h2]; exact hh
  split at h
  · injection h with h1 h2; rw [← h2]; decide
  simp only at h
  split at h
  · cases h
  · injection h with h1 h2; rw [← h2]; exact hw _ _
theorem keyK_le (i : Nat) (l : List UInt8) (keys : List ByteArray) (key : List UInt8) (k : Nat) (h : keyK i l keys = .ok key k) : 1 ≤ k ∧ k ≤ l.length := by
  unfold keyK at h
  split at h
  · cases h
  split at h
  · cases h
  split at h
  · cases h
  simp only at h
  split at h
  · rename_i hp
    injection h with h1 h2
    have := (List.isPrefixOf_iff_prefix.1 hp).length_le
    rw [List.length_drop, List.length_singleton] at this
    omega
  · cases h
end Go.Proofs.YtkkiklaoljdhhaaGreatDoor
end
