/- Packed from the texts Bldr. -/
import Derived.Test.YtppmoeidgefkpaaGreatDoorWKit
import Derived.Test.YtppmoeidgefkpaaGreatDoorWShelf
import Derived.Shelf.Strings.BuilderK
import Derived.Shelf.Strings.BuilderRune
import Derived.Test.YtppmoeidgefkpaaGreatDoorChecked
import Derived.KernelRfl
namespace Go.Proofs.YtppmoeidgefkpaaGreatDoor
section
open Go.RowKit
def bld_ren : Go.Shelf.Ren := ⟨fun | 166 => 20 | 168 => 93 | 240 => 38 | 242 => 116 | 276 => 59 | 278 => 133 | n => n, fun | 0 => 0 | 3 => 3 | 4 => 4 | 5 => 5 | 9 => 9 | 20 => 20 | 21 => 21 | 37 => 44 | 46 => 149 | 51 => 166 | 70 => 43 | 72 => 46 | 75 => 49 | 80 => 57 | 164 => 99 | n => n, fun | n => n⟩
theorem bld_lays166 : Go.Proofs.Lays.n166 Tryz.prog bld_ren := {
 mixed := by kernel_rfl
 f166 := Tryz.func20.trans (congrArg some (by kernel_rfl))
 f240 := Tryz.func38.trans (congrArg some (by kernel_rfl))
 f276 := Tryz.func59.trans (congrArg some (by kernel_rfl))
 t0 := Tryz.underlying0
 a0 := Tryz.isAgg0
 z0 := Tryz.sizeOf0
 v0 := Tryz.zeroValue0
 t3 := Tryz.underlying3
 a3 := Tryz.isAgg3
 z3 := Tryz.sizeOf3
 v3 := Tryz.zeroValue3
 t4 := Tryz.underlying4
 a4 := Tryz.isAgg4
 z4 := Tryz.sizeOf4
 v4 := Tryz.zeroValue4
 t9 := Tryz.underlying9
 a9 := Tryz.isAgg9
 z9 := Tryz.sizeOf9
 v9 := Tryz.zeroValue9
 t20 := Tryz.underlying20
 a20 := Tryz.isAgg20
 z20 := Tryz.sizeOf20
 v20 := Tryz.zeroValue20
 t37 := Tryz.underlying44
 a37 := Tryz.isAgg44
 z37 := Tryz.sizeOf44
 v37 := Tryz.zeroValue44
 t70 := Tryz.underlying43
 a70 := Tryz.isAgg43
 z70 := Tryz.sizeOf43
 v70 := Tryz.zeroValue43
 t72 := Tryz.underlying46
 a72 := Tryz.isAgg46
 z72 := Tryz.sizeOf46
 v72 := Tryz.zeroValue46
 t75 := Tryz.underlying49
 a75 := Tryz.isAgg49
 z75 := Tryz.sizeOf49
 v75 := Tryz.zeroValue49
 t164 := Tryz.underlying99
 a164 := Tryz.isAgg99
 z164 := Tryz.sizeOf99
 v164 := Tryz.zeroValue99 }
theorem bld_lays168 : Go.Proofs.Lays.n168 Tryz.prog bld_ren := {
 mixed := by kernel_rfl
 f168 := Tryz.func93.trans (congrArg some (by kernel_rfl))
 f240 := Tryz.func38.trans (congrArg some (by kernel_rfl))
 f242 := Tryz.func116.trans (congrArg some (by kernel_rfl))
 f276 := Tryz.func59.trans (congrArg some (by kernel_rfl))
 f278 := Tryz.func133.trans (congrArg some (by kernel_rfl))
 t0 := Tryz.underlying0
 a0 := Tryz.isAgg0
 z0 := Tryz.sizeOf0
 v0 := Tryz.zeroValue0
 t3 := Tryz.underlying3
 a3 := Tryz.isAgg3
 z3 := Tryz.sizeOf3
 v3 := Tryz.zeroValue3
 t4 := Tryz.underlying4
 a4 := Tryz.isAgg4
 z4 := Tryz.sizeOf4
 v4 := Tryz.zeroValue4
 t5 := Tryz.underlying5
 a5 := Tryz.isAgg5
 z5 := Tryz.sizeOf5
 v5 := Tryz.zeroValue5
 t9 := Tryz.underlying9
 a9 := Tryz.isAgg9
 z9 := Tryz.sizeOf9
 v9 := Tryz.zeroValue9
 t20 := Tryz.underlying20
 a20 := Tryz.isAgg20
 z20 := Tryz.sizeOf20
 v20 := Tryz.zeroValue20
 t21 := Tryz.underlying21
 a21 := Tryz.isAgg21
 z21 := Tryz.sizeOf21
 v21 := Tryz.zeroValue21
 t37 := Tryz.underlying44
 a37 := Tryz.isAgg44
 z37 := Tryz.sizeOf44
 v37 := Tryz.zeroValue44
 t46 := Tryz.underlying149
 a46 := Tryz.isAgg149
 z46 := Tryz.sizeOf149
 v46 := Tryz.zeroValue149
 t51 := Tryz.underlying166
 a51 := Tryz.isAgg166
 z51 := Tryz.sizeOf166
 v51 := Tryz.zeroValue166
 t70 := Tryz.underlying43
 a70 := Tryz.isAgg43
 z70 := Tryz.sizeOf43
 v70 := Tryz.zeroValue43
 t72 := Tryz.underlying46
 a72 := Tryz.isAgg46
 z72 := Tryz.sizeOf46
 v72 := Tryz.zeroValue46
 t75 := Tryz.underlying49
 a75 := Tryz.isAgg49
 z75 := Tryz.sizeOf49
 v75 := Tryz.zeroValue49
 t164 := Tryz.underlying99
 a164 := Tryz.isAgg99
 z164 := Tryz.sizeOf99
 v164 := Tryz.zeroValue99 }
theorem bld_extra : Go.Proofs.Builder.Extra Tryz.prog bld_ren := {
 sizeBuilder := by kernel_rfl
 liesBuilder := by kernel_rfl
 t5 := Tryz.underlying5
 a5 := Tryz.isAgg5
 z5 := Tryz.sizeOf5
 v5 := Tryz.zeroValue5
 infoByte := by kernel_rfl
 cellsByte := by kernel_rfl
 sizeByte := by kernel_rfl
 neB5 := by decide }
def Bld (B b : Nat) (l : List UInt8) (w : World) : Prop := Lib.IsBuilderF 46 5 B b (Lib.byteCells l) w
theorem bld_at_below {T e : TypeId} {B b : Nat} {p : Value} {bs : List Value} {w w' : World} (h : Lib.BuilderAtF T e B b p bs w) (hb : Below w.heap.size w w') : Lib.BuilderAtF T e B b p bs w' := by
 obtain ⟨hB, v, hh, hown, hne⟩ := h
 refine ⟨hB, v, (hb.block b (Array.getElem?_eq_some_iff.1 hh).1).trans hh, ⟨hown.1, ?_⟩, hne⟩
 rcases hown.2 with hn | ⟨g, cap, cur, fz, hv, hbg, hg, rest⟩
 ·exact .inl hn
 ·exact .inr ⟨g, cap, cur, fz, hv, hbg, (hb.block g (Array.getElem?_eq_some_iff.1 hg).1).trans hg, rest⟩
theorem Bld.below {B b : Nat} {l : List UInt8} {w w' : World} (h : Bld B b l w) (hb : Below w.heap.size w w') : Bld B b l w' := h.elim (fun x => .inl (bld_at_below x hb)) (fun x => .inr (bld_at_below x hb))
theorem bld_cells (s : ByteArray) : Lib.strCells s = Lib.byteCells s.data.toList := Lib.strCells_eq s
theorem bld_fresh (w : World) : Bld w.heap.size w.heap.size [] (w.alloc (.cells #[.pointer none, .slice none 0 0] 46)) := Lib.IsBuilderF.of (Lib.fresh_isBuilder 46 5 w)
theorem bld_WriteString (B b : Nat) (l : List UInt8) (s : ByteArray) (w : World) (h : Bld B b l w) (hlen : l.length + s.size ≤ 140737488355328) (hBw : B ≤ w.heap.size) :
  Calls Tryz.prog 20 #[.pointer (some ⟨b, 0, none⟩), .string s] w fun e w' => e = .returned (.tuple #[.int .i64 s.size, .nilIface]) ∧ Bld B b (l ++ s.data.toList) w' ∧ Below B w w' := by
 refine (Any.Builder_WriteString_k bld_lays166 bld_extra B b (Lib.byteCells l) s w h (by rw [Lib.byteCells_length]; exact hlen) hBw).mono ?_
 rintro e w' ⟨he, h1, h2, _⟩
 refine ⟨he, ?_, h2⟩
 unfold Bld
 rw [Lib.byteCells_append, ← bld_cells]
 exact .inr h1
theorem bld_WriteRune (B b : Nat) (l : List UInt8) (r : Int) (hr0 : -2147483648 ≤ r) (hr1 : r ≤ 2147483647) (w : World) (h : Bld B b l w) (hlen : l.length + 4 ≤ 140737488355328) (hBw : B ≤ w.heap.size) :
  Calls Tryz.prog 93 #[.pointer (some ⟨b, 0, none⟩), .int .i32 r] w fun e w' => e = .returned (.tuple #[.int .i64 (Lib.runeCells r).length, .nilIface]) ∧ Bld B b (l ++ Lib.encodeRune r) w' ∧ Below B w w' := by
 refine (Any.Builder_WriteRune_k bld_lays168 bld_extra B b (Lib.byteCells l) r hr0 hr1 w h (by rw [Lib.byteCells_length]; exact hlen) hBw).mono ?_
 rintro e w' ⟨he, h1, h2, _⟩
 refine ⟨he, ?_, h2⟩
 unfold Bld
 rw [Lib.byteCells_append, Lib.byteCells_encodeRune]
 exact .inr h1
theorem bld_String (B b : Nat) (l : List UInt8) (w : World) (h : Bld B b l w) (hBw : B ≤ w.heap.size) :
  Calls Tryz.prog 24 #[.pointer (some ⟨b, 0, none⟩)] w fun e w' => e = .returned (.string (oB l)) ∧ Bld B b l w' ∧ Below B w w' := by
 refine (Any.Builder_String_any_k (P := Tryz.prog) (ρ := Tryz.lays169_ren) Tryz.lays169 Tryz.Builder_Extra_169 B b l w h hBw).mono ?_
 rintro e w' ⟨he, h1, h2, _⟩
 exact ⟨he, h1, h2⟩
end
end Go.Proofs.YtppmoeidgefkpaaGreatDoor
