/- Packed from the texts JpQ. -/
import Derived.Test.YtggfblodjanfkaaGreatDoorVkJ
import Derived.Deep.QuietTactic
import Derived.BigQuiet
import Derived.WalkSmall
section
namespace Go.Proofs.YtggfblodjanfkaaGreatDoor
open Go.RowKit
theorem ItemsAt.cells {w : World} {pp : Option Addr} {l : List ValD} (h : ItemsAt w pp 0 l) (i : Nat) (hi : i < l.length) : ∃ a p c q d, pp = some a ∧ (w.cell? (a.add (i * 7)) = some (.int .i64 l[i].kind) ∧ w.cell? ((a.add (i * 7)).add 1) = some (.bool l[i].b) ∧ w.cell? ((a.add (i * 7)).add 2) = some (.int .i64 l[i].n) ∧ w.cell? ((a.add (i * 7)).add 3) = some (.string l[i].s) ∧ w.cell? ((a.add (i * 7)).add 4) = some (.slice p l[i].items.length c) ∧ w.cell? ((a.add (i * 7)).add 5) = some (.slice q l[i].mems.length d) ∧ w.cell? ((a.add (i * 7)).add 6) = some (.int .i64 l[i].at')) ∧ ValIs w l[i] (.agg #[.int .i64 l[i].kind, .bool l[i].b, .int .i64 l[i].n, .string l[i].s, .slice p l[i].items.length c, .slice q l[i].mems.length d, .int .i64 l[i].at']) := by
  obtain ⟨a, v0, v1, v2, v3, v4, v5, v6, hp, hc, hn⟩ := ItemsAt.get l 0 h i hi
  rw [Nat.zero_add] at hc
  have hn' := hn
  rw [val_is] at hn
  obtain ⟨p, c, q, d, he, _, _⟩ := hn
  simp only [Value.agg.injEq, Array.mk.injEq, List.cons.injEq, and_true] at he
  obtain ⟨rfl, rfl, rfl, rfl, rfl, rfl, rfl⟩ := he
  exact ⟨a, p, c, q, d, hp, hc, hn'⟩
theorem MemsAt.cells {w : World} {pp : Option Addr} {l : List MemD} (h : MemsAt w pp 0 l) (i : Nat) (hi : i < l.length) : ∃ a p c q d, pp = some a ∧ (w.cell? (a.add (i * 9)) = some (.string l[i].key) ∧ w.cell? ((a.add (i * 9)).add 1) = some (.int .i64 l[i].v.kind) ∧ w.cell? ((a.add (i * 9)).add 2) = some (.bool l[i].v.b) ∧ w.cell? ((a.add (i * 9)).add 3) = some (.int .i64 l[i].v.n) ∧ w.cell? ((a.add (i * 9)).add 4) = some (.string l[i].v.s) ∧ w.cell? ((a.add (i * 9)).add 5) = some (.slice p l[i].v.items.length c) ∧ w.cell? ((a.add (i * 9)).add 6) = some (.slice q l[i].v.mems.length d) ∧ w.cell? ((a.add (i * 9)).add 7) = some (.int .i64 l[i].v.at') ∧ w.cell? ((a.add (i * 9)).add 8) = some (.int .i64 l[i].at')) ∧ ValIs w l[i].v (.agg #[.int .i64 l[i].v.kind, .bool l[i].v.b, .int .i64 l[i].v.n, .string l[i].v.s, .slice p l[i].v.items.length c, .slice q l[i].v.mems.length d, .int .i64 l[i].v.at']) := by
  obtain ⟨a, v0, v1, v2, v3, v4, v5, v6, hp, hc, hn⟩ := MemsAt.get l 0 h i hi
  rw [Nat.zero_add] at hc
  have hn' := hn
  rw [val_is] at hn
  obtain ⟨p, c, q, d, he, _, _⟩ := hn
  simp only [Value.agg.injEq, Array.mk.injEq, List.cons.injEq, and_true] at he
  obtain ⟨rfl, rfl, rfl, rfl, rfl, rfl, rfl⟩ := he
  exact ⟨a, p, c, q, d, hp, hc, hn'⟩
end Go.Proofs.YtggfblodjanfkaaGreatDoor
end
