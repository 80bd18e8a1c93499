/- Packed from the texts JpT. -/
import Derived.Test.YtggfblodjanfkaaGreatDoorVJpH
import Derived.Test.YtggfblodjanfkaaGreatDoorVkM
import Derived.Test.YtggfblodjanfkaaGreatDoorVkN
import Derived.Deep.RegionHeld3
section
namespace Go.Proofs.YtggfblodjanfkaaGreatDoor
open Go.RowKit
theorem VRow.push {wr w1 W : World} {B n1 g : Nat} {own : Option Nat} {st : List ValD} {xs : List Value} {v : ValD} {v0 v1 v2 v3 v4 v5 v6 : Value} (hr : VRow wr (lowx B own) st xs) (hx : ValIs (sans w1 (low n1)) v (.agg #[v0, v1, v2, v3, v4, v5, v6])) (hB : B ≤ n1) (hn : wr.heap.size ≤ n1) (hz : wr.heap.size ≤ w1.heap.size) (hol : ∀ k, own = some k → k < wr.heap.size) (hat : own = some g ∨ w1.heap.size ≤ g)
    (hold : ∀ k, k < wr.heap.size → B ≤ k → w1.heap[k]? = wr.heap[k]?) (hW : ∀ k, k < w1.heap.size → B ≤ k → own ≠ some k → W.heap[k]? = w1.heap[k]?) : VRow W (lowx B (some g)) (st ++ [v]) (xs ++ [v0, v1, v2, v3, v4, v5, v6]) := by
  refine VRow.snoc (hx.go (fun k hk hno => ?_)) st xs (VRow.go (fun k hk hno => ?_) st xs hr)
  · have hkn := low_no hno
    have ho : own ≠ some k := fun e => by have := hol k e; omega
    exact ⟨lowx_ok (by omega) (fun e => by injection e with e; rcases hat with x | x; exact ho (x.trans (congrArg some e)); omega), hW k hk (by omega) ho⟩
  · obtain ⟨h1, h2⟩ := lowx_no hno
    exact ⟨lowx_ok h1 (fun e => by injection e with e; rcases hat with x | x; exact h2 (x.trans (congrArg some e)); omega), (hW k (by omega) h1 h2).trans (hold k hk h1)⟩
theorem MRow.push {wr w1 W : World} {B n1 g : Nat} {own : Option Nat} {st : List MemD} {xs : List Value} {m : MemD} {v0 v1 v2 v3 v4 v5 v6 : Value} (hr : MRow wr (lowx B own) st xs) (hx : ValIs (sans w1 (low n1)) m.v (.agg #[v0, v1, v2, v3, v4, v5, v6])) (hB : B ≤ n1) (hn : wr.heap.size ≤ n1) (hz : wr.heap.size ≤ w1.heap.size) (hol : ∀ k, own = some k → k < wr.heap.size) (hat : own = some g ∨ w1.heap.size ≤ g)
    (hold : ∀ k, k < wr.heap.size → B ≤ k → w1.heap[k]? = wr.heap[k]?) (hW : ∀ k, k < w1.heap.size → B ≤ k → own ≠ some k → W.heap[k]? = w1.heap[k]?) : MRow W (lowx B (some g)) (st ++ [m]) (xs ++ [.string m.key, v0, v1, v2, v3, v4, v5, v6, .int .i64 m.at']) := by
  refine MRow.snoc (hx.go (fun k hk hno => ?_)) st xs (MRow.go (fun k hk hno => ?_) st xs hr)
  · have hkn := low_no hno
    have ho : own ≠ some k := fun e => by have := hol k e; omega
    exact ⟨lowx_ok (by omega) (fun e => by injection e with e; rcases hat with x | x; exact ho (x.trans (congrArg some e)); omega), hW k hk (by omega) ho⟩
  · obtain ⟨h1, h2⟩ := lowx_no hno
    exact ⟨lowx_ok h1 (fun e => by injection e with e; rcases hat with x | x; exact h2 (x.trans (congrArg some e)); omega), (hW k (by omega) h1 h2).trans (hold k hk h1)⟩
theorem jinfo_mem : (Tryz.prog.info? 104).map (fun i => (i.zero, i.size, i.bytes)) = some (some (.agg #[.string ⟨#[]⟩, .int .i64 0, .bool false, .int .i64 0, .string ⟨#[]⟩, .slice none 0 0, .slice none 0 0, .int .i64 0, .int .i64 0]), 9, 120) := by kernel_rfl
end Go.Proofs.YtggfblodjanfkaaGreatDoor
end
