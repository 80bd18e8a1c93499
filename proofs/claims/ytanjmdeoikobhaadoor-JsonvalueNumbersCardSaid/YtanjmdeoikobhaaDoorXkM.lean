/- Packed from the texts JvB JvG JpQ. -/
import Derived.Test.YtanjmdeoikobhaaDoorXkJ
import Derived.Deep.QuietTactic
import Derived.BigQuiet
import Derived.WalkSmall
section
namespace Go.Proofs.YtanjmdeoikobhaaDoor
open Go.RowKit
theorem vdepths_ge : ∀ (l : List ValD) (m : Nat), m ≤ vdepths l m
  | [], m => by rw [vdepths]; exact Nat.le_refl _
  | k :: r, m => by
    rw [vdepths]
    exact Nat.le_trans (Nat.le_max_left _ _) (vdepths_ge r _)
theorem mdepths_ge : ∀ (l : List MemD) (m : Nat), m ≤ mdepths l m
  | [], m => by rw [mdepths]; exact Nat.le_refl _
  | k :: r, m => by
    rw [mdepths]
    exact Nat.le_trans (Nat.le_max_left _ _) (mdepths_ge r _)
mutual
theorem vdepth_cnt : ∀ n : ValD, n.depth ≤ n.cnt
  | .mk kind b n s items mems at' => by
    rw [ValD.depth, ValD.cnt]
    have h1 := vdepths_cnt items 0
    have h2 := mdepths_cnt mems 0
    split
    · omega
    · split <;> omega
theorem vdepths_cnt : ∀ (l : List ValD) (m : Nat), vdepths l m ≤ m + vcnts l
  | [], m => by rw [vdepths]; omega
  | k :: r, m => by
    rw [vdepths, vcnts]
    have h1 := vdepth_cnt k
    have h2 := vdepths_cnt r (max m k.depth)
    omega
theorem mdepths_cnt : ∀ (l : List MemD) (m : Nat), mdepths l m ≤ m + mcnts l
  | [], m => by rw [mdepths]; omega
  | k :: r, m => by
    rw [mdepths, mcnts]
    have h1 := mdepth_cnt k
    have h2 := mdepths_cnt r (max m k.depth)
    omega
theorem mdepth_cnt : ∀ n : MemD, n.depth ≤ n.cnt
  | .mk key v at' => by
    rw [MemD.depth, MemD.cnt]
    exact vdepth_cnt v
end
theorem jtrI {a b : Int} (h : a = b) : Ending.returned (.int .i64 a) = .returned (.int .i64 b) := by rw [h]
end Go.Proofs.YtanjmdeoikobhaaDoor
end
section
namespace Go.Proofs.YtanjmdeoikobhaaDoor
open Go.RowKit
theorem jstr_ne3 {a b : ByteArray} (h : a ≠ b) : ¬ a.toList = b.toList := by
  intro e
  apply h
  rw [ByteArray.toList_eq, ByteArray.toList_eq] at e
  cases a; cases b; simp at e; simp [e]
theorem jstr_ne2 {a b : ByteArray} (h : a ≠ b) : (a.toList == b.toList) = false := beq_eq_false_iff_ne.2 (jstr_ne3 h)
theorem jstr_ne {a b : ByteArray} (h : a ≠ b) : (a.toList != b.toList) = true := by
  rw [bne_iff_ne]
  exact jstr_ne3 h
def getL (k : ByteArray) : List MemD → Option ValD
  | [] => none
  | m :: r => if m.key = k then some m.v else getL k r
def getV (n : ValD) (k : ByteArray) : Option ValD := if n.kind = 5 then getL k n.mems else none
def zeroJ : Value := .agg #[.int .i64 0, .bool false, .int .i64 0, .string ⟨#[]⟩, .slice none 0 0, .slice none 0 0, .int .i64 0]
def GotV (w : World) (R : Option ValD) (x : Value) : Prop := match R with | some v => ValIs w v x | none => x = zeroJ
theorem GotV.none' {w : World} {R : Option ValD} {x : Value} (h : R = none) (hx : x = zeroJ) : GotV w R x := by rw [h]; exact hx
theorem GotV.some' {w : World} {R : Option ValD} {v : ValD} {x : Value} (h : R = some v) (hx : ValIs w v x) : GotV w R x := by rw [h]; exact hx
end Go.Proofs.YtanjmdeoikobhaaDoor
end
section
namespace Go.Proofs.YtanjmdeoikobhaaDoor
open Go.RowKit
theorem ItemsAt.cells {w : World} {pp : Option Addr} {l : List ValD} (h : ItemsAt w pp 0 l) (i : Nat) (hi : i < l.length) : ∃ a p c q d, pp = some a ∧ (w.cell? (a.add (i * 7)) = some (.int .i64 l[i].kind) ∧ w.cell? ((a.add (i * 7)).add 1) = some (.bool l[i].b) ∧ w.cell? ((a.add (i * 7)).add 2) = some (.int .i64 l[i].n) ∧ w.cell? ((a.add (i * 7)).add 3) = some (.string l[i].s) ∧ w.cell? ((a.add (i * 7)).add 4) = some (.slice p l[i].items.length c) ∧ w.cell? ((a.add (i * 7)).add 5) = some (.slice q l[i].mems.length d) ∧ w.cell? ((a.add (i * 7)).add 6) = some (.int .i64 l[i].at')) ∧ ValIs w l[i] (.agg #[.int .i64 l[i].kind, .bool l[i].b, .int .i64 l[i].n, .string l[i].s, .slice p l[i].items.length c, .slice q l[i].mems.length d, .int .i64 l[i].at']) := by
  obtain ⟨a, v0, v1, v2, v3, v4, v5, v6, hp, hc, hn⟩ := ItemsAt.get l 0 h i hi
  rw [Nat.zero_add] at hc
  have hn' := hn
  rw [val_is] at hn
  obtain ⟨p, c, q, d, he, _, _⟩ := hn
  simp only [Value.agg.injEq, Array.mk.injEq, List.cons.injEq, and_true] at he
  obtain ⟨rfl, rfl, rfl, rfl, rfl, rfl, rfl⟩ := he
  exact ⟨a, p, c, q, d, hp, hc, hn'⟩
theorem MemsAt.cells {w : World} {pp : Option Addr} {l : List MemD} (h : MemsAt w pp 0 l) (i : Nat) (hi : i < l.length) : ∃ a p c q d, pp = some a ∧ (w.cell? (a.add (i * 9)) = some (.string l[i].key) ∧ w.cell? ((a.add (i * 9)).add 1) = some (.int .i64 l[i].v.kind) ∧ w.cell? ((a.add (i * 9)).add 2) = some (.bool l[i].v.b) ∧ w.cell? ((a.add (i * 9)).add 3) = some (.int .i64 l[i].v.n) ∧ w.cell? ((a.add (i * 9)).add 4) = some (.string l[i].v.s) ∧ w.cell? ((a.add (i * 9)).add 5) = some (.slice p l[i].v.items.length c) ∧ w.cell? ((a.add (i * 9)).add 6) = some (.slice q l[i].v.mems.length d) ∧ w.cell? ((a.add (i * 9)).add 7) = some (.int .i64 l[i].v.at') ∧ w.cell? ((a.add (i * 9)).add 8) = some (.int .i64 l[i].at')) ∧ ValIs w l[i].v (.agg #[.int .i64 l[i].v.kind, .bool l[i].v.b, .int .i64 l[i].v.n, .string l[i].v.s, .slice p l[i].v.items.length c, .slice q l[i].v.mems.length d, .int .i64 l[i].v.at']) := by
  obtain ⟨a, v0, v1, v2, v3, v4, v5, v6, hp, hc, hn⟩ := MemsAt.get l 0 h i hi
  rw [Nat.zero_add] at hc
  have hn' := hn
  rw [val_is] at hn
  obtain ⟨p, c, q, d, he, _, _⟩ := hn
  simp only [Value.agg.injEq, Array.mk.injEq, List.cons.injEq, and_true] at he
  obtain ⟨rfl, rfl, rfl, rfl, rfl, rfl, rfl⟩ := he
  exact ⟨a, p, c, q, d, hp, hc, hn'⟩
end Go.Proofs.YtanjmdeoikobhaaDoor
end
