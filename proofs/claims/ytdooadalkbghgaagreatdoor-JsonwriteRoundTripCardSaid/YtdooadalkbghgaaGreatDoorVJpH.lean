/- Packed from the texts JpH. -/
import Derived.Test.YtdooadalkbghgaaGreatDoorVJpG
section
namespace Go.Proofs.YtdooadalkbghgaaGreatDoor
open Go.RowKit
def OutV (w0 w : World) (b : Nat) (s : ByteArray) (e : Ending) (w' : World) : Ares → Prop
  | .err a x => e = fltE a x ∧ Below w0.heap.size w0 w'
  | .ok v j => (∃ x, e = .returned x ∧ ValIs (sans w' (low w.heap.size)) v x) ∧ Psr w' b s j ∧ Pb b w w'
def JqV (w0 : World) (b : Nat) (s : ByteArray) (m : Nat) : Prop := ∀ (i d : Nat) (w : World), i ≤ s.size → s.size - i ≤ m → d ≤ 1000 → Psr w b s i → Below w0.heap.size w0 w →
  Calls Tryz.prog 40 #[.pointer (some ⟨b, 0, none⟩), .int .i64 d] w fun e w' => OutV w0 w b s e w' (vA s.data.toList i d)
structure ItE (wS : World) (B b bi bp bd d : Nat) (st : List ValD) (i : Nat) (w : World) : Prop where
  kept : Pb b wS w
  len : st.length ≤ i
  ptr : Bj w bp #[.pointer (some ⟨b, 0, none⟩)] 77
  dep : Bj w bd #[.int .i64 (d : Int)] 3
  size : B ≤ w.heap.size
  row : ∃ v xs, Bj w bi #[v] 22 ∧ w.ownsRow B 25 7 v st.length xs ∧ VRow w (lowx B v.ownBlock) st xs
theorem ItE.more {wS : World} {B b bi bp bd d : Nat} {st : List ValD} {i i' : Nat} {w w' : World} (h : ItE wS B b bi bp bd d st i w) (k : Pb b w w') (hi : i ≤ i') (h1 : b < B) (h2 : bi ≠ b) (h3 : bp ≠ b) (h4 : bd ≠ b) : ItE wS B b bi bp bd d st i' w' := by
  obtain ⟨hk, hl, hp, hd, hz, v, xs, hv, ho, hr⟩ := h
  exact ⟨hk.trans' k, by omega, Pj.blk k hp h3, Pj.blk k hd h4, Nat.le_trans hz k.size, v, xs, Pj.blk k hv h2, Pj.row k ho (fun x hx => by omega), VRow.go (fun x hx hn => ⟨hn, k.block x hx (fun e => by have := lowx_no hn; omega)⟩) _ _ hr⟩
theorem jinfo_value : (Tryz.prog.info? 25).map (fun i => (i.zero, i.size, i.bytes)) = some (some (.agg #[.int .i64 0, .bool false, .int .i64 0, .string ⟨#[]⟩, .slice none 0 0, .slice none 0 0, .int .i64 0]), 7, 96) := by kernel_rfl
theorem ItE.put {w0 wS : World} {B b bi bp bd d : Nat} {st : List ValD} {i : Nat} {w w1 W : World} {A0 : Option Addr} {C0 : Nat} {xs : List Value} (h : ItE wS B b bi bp bd d st i w) (hSi : wS.heap.size ≤ bi) (hb : w0.heap.size ≤ b) (hbB : b < B) (hbi : w0.heap.size ≤ bi) (hiB : bi < B) (hpB : bp < B) (hdB : bd < B) (h2 : bi ≠ b) (h3 : bp ≠ b) (h4 : bd ≠ b) (h5 : bi ≠ bp) (h6 : bi ≠ bd)
    (hw : Below w0.heap.size w0 w) (hv : Bj w bi #[.slice A0 st.length C0] 22) (ho : w.ownsRow B 25 7 (.slice A0 st.length C0) st.length xs) (hr : VRow w (lowx B (Value.slice A0 st.length C0).ownBlock) st xs)
    {n1 : Nat} (hn1 : w.heap.size ≤ n1) {v : ValD} {v0 v1 v2 v3 v4 v5 v6 : Value} (hx : ValIs (sans w1 (low n1)) v (.agg #[v0, v1, v2, v3, v4, v5, v6])) {j : Nat} (hij : i < j) {s : ByteArray} (hjs : j ≤ s.size) (hP : Psr w1 b s j)
    {g cap : Nat} (hat : (Value.slice A0 st.length C0).ownBlock = some g ∨ w1.heap.size ≤ g)
    (hz : w1.heap.size ≤ W.heap.size) (hz0 : w.heap.size ≤ w1.heap.size) (hos : W.os = w.os) (htp : W.tape = w.tape) (hou : W.output = w.output)
    (hold : ∀ k, k < w.heap.size → k ≠ b → w1.heap[k]? = w.heap[k]?)
    (hW : ∀ k, k < w1.heap.size → k ≠ g → k ≠ bi → (Value.slice A0 st.length C0).ownBlock ≠ some k → W.heap[k]? = w1.heap[k]?)
    (hWi : Bj W bi #[.slice (some ⟨g, 0, none⟩) (st.length + 1) cap] 22) (hWo : W.ownsRow B 25 7 (.slice (some ⟨g, 0, none⟩) (st.length + 1) cap) (st.length + 1) (xs ++ [v0, v1, v2, v3, v4, v5, v6])) :
    OutL (ItE wS B b bi bp bd d) w0 b s (.returned (.tuple #[])) W (.ok (st ++ [v]) j) := by
  have hiz := hv.lt
  have hgB : B ≤ g := by
    rcases hat with e | e
    · exact (ho.lt g e).1
    · have := h.size; omega
  have hblt := hP.lt
  have hnl : ∀ k, k < B → (Value.slice A0 st.length C0).ownBlock ≠ some k := fun k hk e => by have := (ho.lt k e).1; omega
  refine ⟨rfl, (hW b hblt (by omega) (by omega) (hnl b hbB)).trans hP, hjs, ⟨⟨hos.trans h.kept.os, htp.trans h.kept.tape, hou.trans h.kept.output, by have := h.kept.size; omega, fun k hk hn => ?_⟩, by rw [List.length_append, List.length_singleton]; have := h.len; omega, ?_, ?_, by have := h.size; omega, _, _, hWi, by rw [List.length_append, List.length_singleton]; exact hWo, ?_⟩, ⟨hos.trans hw.os, htp.trans hw.tape, hou.trans hw.output, by have := hw.size; omega, fun k hk => ?_⟩⟩
  · have := h.kept.size
    exact (hW k (by omega) (by omega) (by omega) (hnl k (by omega))).trans ((hold k (by omega) hn).trans (h.kept.block k hk hn))
  · have := h.ptr.lt
    exact (hW bp (by omega) (by omega) (by omega) (hnl bp hpB)).trans ((hold bp h.ptr.lt h3).trans h.ptr)
  · have := h.dep.lt
    exact (hW bd (by omega) (by omega) (by omega) (hnl bd hdB)).trans ((hold bd h.dep.lt h4).trans h.dep)
  · refine VRow.snoc (hx.go (fun k hk hn => ?_)) st xs (VRow.go (fun k hk hn => ?_) st xs hr)
    · have hkn := low_no hn
      have hkg : k ≠ g := by
        intro e
        subst e
        rcases hat with e | e
        · have := (ho.lt k e).2; omega
        · omega
      have hsz := h.size
      exact ⟨lowx_ok (by omega) (fun e => hkg (by injection e with e; exact e.symm)), hW k hk hkg (by omega) (fun e => by have := (ho.lt k e).2; omega)⟩
    · obtain ⟨hkB, hkv⟩ := lowx_no hn
      have hkg : k ≠ g := by
        intro e
        subst e
        rcases hat with e | e
        · exact hkv e
        · omega
      exact ⟨lowx_ok hkB (fun e => hkg (by injection e with e; exact e.symm)), (hW k (by omega) hkg (by omega) hkv).trans (hold k hk (by omega))⟩
  · have h8 := hw.size
    exact (hW k (by omega) (by omega) (by omega) (hnl k (by omega))).trans ((hold k (by omega) (by omega)).trans (hw.block k hk))
set_option maxRecDepth 100000 in
set_option maxHeartbeats 16000000 in
theorem jp_item (w0 : World) (b : Nat) (s : ByteArray) (m : Nat) (hV : JqV w0 b s m) (hs : s.size ≤ 1000000) (wS : World) (B bi bp bd d : Nat) (hSi : wS.heap.size ≤ bi) (hb : w0.heap.size ≤ b) (hbB : b < B) (hbi : w0.heap.size ≤ bi) (hiB : bi < B) (hpB : bp < B) (hdB : bd < B) (h2 : bi ≠ b) (h3 : bp ≠ b) (h4 : bd ≠ b) (h5 : bi ≠ bp) (h6 : bi ≠ bd) (hd : d ≤ 100)
    (st : List ValD) (i : Nat) (w : World) (hi : i ≤ s.size) (him : s.size - i ≤ m) (hE : ItE wS B b bi bp bd d st i w) (hP : Psr w b s i) (hw : Below w0.heap.size w0 w) :
    Calls Tryz.prog 77 #[.pointer (some ⟨bi, 0, none⟩), .pointer (some ⟨bp, 0, none⟩), .pointer (some ⟨bd, 0, none⟩)] w fun e w' => OutL (ItE wS B b bi bp bd d) w0 b s e w' (stepA s.data.toList d st i) := by
  obtain ⟨i0, hi0, hi1, hi3, hi4⟩ := info_parts jinfo_value
  obtain ⟨v, xs, hv, ho, hr⟩ := hE.row
  obtain ⟨A0, C0, rfl⟩ := jrow_val ho
  have hstl : st.length ≤ 1000000 := by have := hE.len; omega
  have hS : w.drew.cell? ⟨bi, 0, none⟩ = some (.slice A0 st.length C0) ∧ w.drew.cell? ⟨bp, 0, none⟩ = some (.pointer (some ⟨b, 0, none⟩)) ∧ w.drew.cell? ⟨bd, 0, none⟩ = some (.int .i64 (d : Int)) := ⟨hv.cell 0, hE.ptr.cell 0, hE.dep.cell 0⟩
  have hdw : IntKind.i64.wrap ((d : Int) + 1) = ((d + 1 : Nat) : Int) := wrap_small _ (by omega) (by omega)
  have cV : ∀ wx, Psr wx b s i → Below w0.heap.size w0 wx → Calls Tryz.prog 40 #[.pointer (some ⟨b, 0, none⟩), .int .i64 ((d + 1 : Nat) : Int)] wx fun e w' => OutV w0 wx b s e w' (vA s.data.toList i (d + 1)) := fun wx h1 h2 => hV i (d + 1) wx hi him (by omega) h1 h2
  have hstep := stepA.eq_1 s.data.toList d st i
  have hend : i ≤ s.size → ∀ {v : ValD} {j : Nat}, vA s.data.toList i (d + 1) = .ok v j → i < j ∧ j ≤ s.size := fun h v j e => by have := @vA_end s.data.toList i (d + 1) v j (by simpa using h) e; simpa using this
  rw [hstep]
  clear hstep
  have hne : ∀ g, (Value.slice A0 st.length C0).ownBlock = some g → g ≠ bi ∧ bi ≠ g := fun g hg => by have := (ho.lt g hg).1; constructor <;> omega
  have hpost : ∀ (W3 : World), (∀ k, k < w.heap.size → k ≠ b → W3.heap[k]? = w.heap[k]?) → w.heap.size ≤ W3.heap.size → ∀ (g cap : Nat) (w4 : World), w4.ownsRow B 25 7 (.slice (some ⟨g, 0, none⟩) (st.length + 1) cap) (st.length + 1) (xs ++ [.int .i64 0, .bool false, .int .i64 0, .string ⟨#[]⟩, .slice none 0 0, .slice none 0 0, .int .i64 0]) → W3.grownBy w4 (Value.slice A0 st.length C0).ownBlock →
      (w4.cell? ⟨bi, 0, none⟩ = some (.slice A0 st.length C0) ∧ w4.frozen? ⟨bi, 0, none⟩ = false) ∧ (w4.cell? ⟨g, st.length * 7, none⟩ = some (.int .i64 0) ∧ w4.cell? ⟨g, st.length * 7 + 1, none⟩ = some (.bool false) ∧ w4.cell? ⟨g, st.length * 7 + 2, none⟩ = some (.int .i64 0) ∧ w4.cell? ⟨g, st.length * 7 + 3, none⟩ = some (.string ⟨#[]⟩) ∧ w4.cell? ⟨g, st.length * 7 + 4, none⟩ = some (.slice none 0 0) ∧ w4.cell? ⟨g, st.length * 7 + 5, none⟩ = some (.slice none 0 0) ∧ w4.cell? ⟨g, st.length * 7 + 6, none⟩ = some (.int .i64 0)) ∧ (w4.frozen? ⟨g, st.length * 7, none⟩ = false ∧ w4.frozen? ⟨g, st.length * 7 + 1, none⟩ = false ∧ w4.frozen? ⟨g, st.length * 7 + 2, none⟩ = false ∧ w4.frozen? ⟨g, st.length * 7 + 3, none⟩ = false ∧ w4.frozen? ⟨g, st.length * 7 + 4, none⟩ = false ∧ w4.frozen? ⟨g, st.length * 7 + 5, none⟩ = false ∧ w4.frozen? ⟨g, st.length * 7 + 6, none⟩ = false) := by
    intro W3 h1 h2 g cap w4 hown hgrow
    have hb4 : Bj w4 bi #[.slice A0 st.length C0] 22 := (hgrow.block bi (by have := hv.lt; omega) (fun e => (hne bi e.symm).1 rfl)).trans ((h1 bi hv.lt ‹bi ≠ b›).trans hv)
    have hl := jrow_last hown ho.1
    refine ⟨⟨hb4.cell 0, hb4.fr 0⟩, ⟨hl 0 _ rfl, hl 1 _ rfl, hl 2 _ rfl, hl 3 _ rfl, hl 4 _ rfl, hl 5 _ rfl, hl 6 _ rfl⟩, World.ownsRow.frozenAt hown _, World.ownsRow.frozenAt hown _, World.ownsRow.frozenAt hown _, World.ownsRow.frozenAt hown _, World.ownsRow.frozenAt hown _, World.ownsRow.frozenAt hown _, World.ownsRow.frozenAt hown _⟩
  have hxl := ho.1
  have hn1 : (st.length : Int) < (st.length : Int) + 1 := by omega
  have hn2 : st.length < st.length + 1 := by omega
  have HE := Lib.hid hE
  have HV := Lib.hid hv
  have HO := Lib.hid ho
  have HR := Lib.hid hr
  have HP := Lib.hid hP
  have HW := Lib.hid hw
  have HPO := Lib.hid hpost
  have HNE := Lib.hid hne
  have hbz := hE.size
  clear hE hv ho hr hP hw hV hpost hne
  cases hv : vA s.data.toList i (d + 1) with
  | err a x =>
    rw [hv] at cV
    simp only [OutV] at cV
    clear hend
    have HH := Lib.hid hv
    clear hv
    go_enter Tryz.func77, Tryz.ntmps77
    refine wp_region_late (S := fun w' => w'.cell? ⟨bi, 0, none⟩ = some (.slice A0 st.length C0) ∧ w'.cell? ⟨bp, 0, none⟩ = some (.pointer (some ⟨b, 0, none⟩)) ∧ w'.cell? ⟨bd, 0, none⟩ = some (.int .i64 (d : Int))) (D := [7, 8, 9, 10]) (by kernel_rfl) ?_
    refine anyL_take (i := 0) (oi := { dst := Option.some 3, op := Go.Op.load 22 (Go.Operand.tmp 0), type := 22, pos := "parser.go:141", after := #[], guard := Option.none }) (v := ?_) rfl (by decide) (by kernel_rfl) (by kernel_rfl) (by kernel_rfl) (by kernel_rfl) (fun _ _ _ h => h) (Or.inl ⟨by rfl, ?_⟩) hS ?_
    rotate_left
    · intro wz hSz
      obtain ⟨z0, z1, z2⟩ := hSz
      go_simp
      (try with_reducible rfl)
    try simp only [Act.put, List.setIfInBounds_toArray, List.set_cons_zero, List.set_cons_succ]
    refine anyL_take (i := 1) (oi := { dst := Option.some 4, op := Go.Op.load 77 (Go.Operand.tmp 1), type := 77, pos := "parser.go:141", after := #[], guard := Option.none }) (v := ?_) rfl (by decide) (by kernel_rfl) (by kernel_rfl) (by kernel_rfl) (by kernel_rfl) (fun _ _ _ h => h) (Or.inl ⟨by rfl, ?_⟩) hS ?_
    rotate_left
    · intro wz hSz
      obtain ⟨z0, z1, z2⟩ := hSz
      go_simp
      (try with_reducible rfl)
    try simp only [Act.put, List.setIfInBounds_toArray, List.set_cons_zero, List.set_cons_succ]
    refine anyL_take (i := 2) (oi := { dst := Option.some 5, op := Go.Op.load 3 (Go.Operand.tmp 2), type := 3, pos := "parser.go:141", after := #[], guard := Option.none }) (v := ?_) rfl (by decide) (by kernel_rfl) (by kernel_rfl) (by kernel_rfl) (by kernel_rfl) (fun _ _ _ h => h) (Or.inl ⟨by rfl, ?_⟩) hS ?_
    rotate_left
    · intro wz hSz
      obtain ⟨z0, z1, z2⟩ := hSz
      go_simp
      (try with_reducible rfl)
    try simp only [Act.put, List.setIfInBounds_toArray, List.set_cons_zero, List.set_cons_succ]
    refine anyL_take (i := 3) (oi := { dst := Option.some 6, op := Go.Op.binOp Go.BinOp.add 3 (Go.Operand.tmp 5) (Go.Operand.const (Go.Value.int Go.IntKind.i64 1)) 3, type := 3, pos := "parser.go:141", after := #[{ on := 2, ground := Go.Ground.data }], guard := Option.none }) (v := ?_) rfl (by decide) (by kernel_rfl) (by kernel_rfl) (by kernel_rfl) (by kernel_rfl) (fun _ _ _ h => h) (Or.inl ⟨by rfl, ?_⟩) hS ?_
    rotate_left
    · intro wz hSz
      skip
      go_simp
      (try with_reducible rfl)
    try simp only [Act.put, List.setIfInBounds_toArray, List.set_cons_zero, List.set_cons_succ]
    refine anyL_take (i := 5) (oi := { dst := Option.some 8, op := Go.Op.call { callee := Go.Callee.builtin Go.Builtin.len, args := #[Go.Operand.tmp 3], argTypes := #[22] }, type := 3, pos := "parser.go:141", after := #[{ on := 0, ground := Go.Ground.data }], guard := Option.none }) (v := ?_) rfl (by decide) (by kernel_rfl) (by kernel_rfl) (by kernel_rfl) (by kernel_rfl) (fun _ _ _ h => h) (Or.inl ⟨by rfl, ?_⟩) hS ?_
    rotate_left
    · intro wz hSz
      skip
      go_simp
      (try with_reducible rfl)
    try simp only [Act.put, List.setIfInBounds_toArray, List.set_cons_zero, List.set_cons_succ]
    refine anyL_ready (rs := [4, 6]) (by kernel_rfl) (by simp) ?_
    refine AllL.cons (o := { dst := Option.some 7, op := Go.Op.call { callee := Go.Callee.value (Go.Operand.func 40), args := #[Go.Operand.tmp 4, Go.Operand.tmp 6], argTypes := #[77, 3] }, type := 25, pos := "parser.go:141", after := #[{ on := 1, ground := Go.Ground.data }, { on := 3, ground := Go.Ground.data }], guard := Option.none }) rfl (fun K' hK => ?_) (AllL.cons (o := { dst := Option.some 9, op := Go.Op.buildSlice 22 1 #[(0, Go.Operand.const (Go.Value.agg #[Go.Value.int Go.IntKind.i64 0, Go.Value.bool Bool.false, Go.Value.int Go.IntKind.i64 0, Go.Value.string { data := #[] }, Go.Value.slice Option.none 0 0, Go.Value.slice Option.none 0 0, Go.Value.int Go.IntKind.i64 0]))], type := 22, pos := "parser.go:141", after := #[], guard := Option.none }) rfl (fun K' hK => ?_) AllL.nil)
    · go_simp
      go_at_call 40
      refine (cV w.drew HP.out HW.out.drew).mono ?_
      rintro e w1 ⟨rfl, hB⟩
      try go_simp
      exact ⟨rfl, rfl, hB⟩
    · go_simp
      have S0 : (w.alloc (.cells #[.int .i64 0, .bool false, .int .i64 0, .string ⟨#[]⟩, .slice none 0 0, .slice none 0 0, .int .i64 0] 25)).drew.cell? ⟨bi, 0, none⟩ = some (.slice A0 st.length C0) ∧ (w.alloc (.cells #[.int .i64 0, .bool false, .int .i64 0, .string ⟨#[]⟩, .slice none 0 0, .slice none 0 0, .int .i64 0] 25)).drew.cell? ⟨bp, 0, none⟩ = some (.pointer (some ⟨b, 0, none⟩)) ∧ (w.alloc (.cells #[.int .i64 0, .bool false, .int .i64 0, .string ⟨#[]⟩, .slice none 0 0, .slice none 0 0, .int .i64 0] 25)).drew.cell? ⟨bd, 0, none⟩ = some (.int .i64 (d : Int)) := ⟨jcell_alloc hS.1 _, jcell_alloc hS.2.1 _, jcell_alloc hS.2.2 _⟩
      refine hK _ _ S0 ?_
      clear hK K'
      try simp only [Act.put, List.setIfInBounds_toArray, List.set_cons_zero, List.set_cons_succ]
      refine anyL_ready (rs := [4]) (by kernel_rfl) (by simp) ?_
      refine AllL.cons (o := { dst := Option.some 7, op := Go.Op.call { callee := Go.Callee.value (Go.Operand.func 40), args := #[Go.Operand.tmp 4, Go.Operand.tmp 6], argTypes := #[77, 3] }, type := 25, pos := "parser.go:141", after := #[{ on := 1, ground := Go.Ground.data }, { on := 3, ground := Go.Ground.data }], guard := Option.none }) rfl (fun K' hK => ?_) AllL.nil
      go_simp
      go_at_call 40
      have b0 : Below w.heap.size w ((w.alloc (.cells #[.int .i64 0, .bool false, .int .i64 0, .string ⟨#[]⟩, .slice none 0 0, .slice none 0 0, .int .i64 0] 25)).drew) := ((Below.refl _ _).alloc (Nat.le_refl _) _).drew
      refine (cV ((w.alloc (.cells #[.int .i64 0, .bool false, .int .i64 0, .string ⟨#[]⟩, .slice none 0 0, .slice none 0 0, .int .i64 0] 25)).drew) (HP.out.more b0) (HW.out.trans (b0.mono HW.out.size))).mono ?_
      rintro e w1 ⟨rfl, hB⟩
      try go_simp
      exact ⟨rfl, rfl, hB⟩
  | ok v j =>
    rw [hv] at cV
    simp only [OutV] at cV
    obtain ⟨hij, hjs⟩ := hend hi hv
    have HH := Lib.hid hv
    clear hv hend
    go_enter Tryz.func77, Tryz.ntmps77
    refine wp_region_late (S := fun w' => w'.cell? ⟨bi, 0, none⟩ = some (.slice A0 st.length C0) ∧ w'.cell? ⟨bp, 0, none⟩ = some (.pointer (some ⟨b, 0, none⟩)) ∧ w'.cell? ⟨bd, 0, none⟩ = some (.int .i64 (d : Int))) (D := [7, 8, 9, 10]) (by kernel_rfl) ?_
    refine anyL_take (i := 0) (oi := { dst := Option.some 3, op := Go.Op.load 22 (Go.Operand.tmp 0), type := 22, pos := "parser.go:141", after := #[], guard := Option.none }) (v := ?_) rfl (by decide) (by kernel_rfl) (by kernel_rfl) (by kernel_rfl) (by kernel_rfl) (fun _ _ _ h => h) (Or.inl ⟨by rfl, ?_⟩) hS ?_
    rotate_left
    · intro wz hSz
      obtain ⟨z0, z1, z2⟩ := hSz
      go_simp
      (try with_reducible rfl)
    try simp only [Act.put, List.setIfInBounds_toArray, List.set_cons_zero, List.set_cons_succ]
    refine anyL_take (i := 1) (oi := { dst := Option.some 4, op := Go.Op.load 77 (Go.Operand.tmp 1), type := 77, pos := "parser.go:141", after := #[], guard := Option.none }) (v := ?_) rfl (by decide) (by kernel_rfl) (by kernel_rfl) (by kernel_rfl) (by kernel_rfl) (fun _ _ _ h => h) (Or.inl ⟨by rfl, ?_⟩) hS ?_
    rotate_left
    · intro wz hSz
      obtain ⟨z0, z1, z2⟩ := hSz
      go_simp
      (try with_reducible rfl)
    try simp only [Act.put, List.setIfInBounds_toArray, List.set_cons_zero, List.set_cons_succ]
    refine anyL_take (i := 2) (oi := { dst := Option.some 5, op := Go.Op.load 3 (Go.Operand.tmp 2), type := 3, pos := "parser.go:141", after := #[], guard := Option.none }) (v := ?_) rfl (by decide) (by kernel_rfl) (by kernel_rfl) (by kernel_rfl) (by kernel_rfl) (fun _ _ _ h => h) (Or.inl ⟨by rfl, ?_⟩) hS ?_
    rotate_left
    · intro wz hSz
      obtain ⟨z0, z1, z2⟩ := hSz
      go_simp
      (try with_reducible rfl)
    try simp only [Act.put, List.setIfInBounds_toArray, List.set_cons_zero, List.set_cons_succ]
    refine anyL_take (i := 3) (oi := { dst := Option.some 6, op := Go.Op.binOp Go.BinOp.add 3 (Go.Operand.tmp 5) (Go.Operand.const (Go.Value.int Go.IntKind.i64 1)) 3, type := 3, pos := "parser.go:141", after := #[{ on := 2, ground := Go.Ground.data }], guard := Option.none }) (v := ?_) rfl (by decide) (by kernel_rfl) (by kernel_rfl) (by kernel_rfl) (by kernel_rfl) (fun _ _ _ h => h) (Or.inl ⟨by rfl, ?_⟩) hS ?_
    rotate_left
    · intro wz hSz
      skip
      go_simp
      (try with_reducible rfl)
    try simp only [Act.put, List.setIfInBounds_toArray, List.set_cons_zero, List.set_cons_succ]
    refine anyL_take (i := 5) (oi := { dst := Option.some 8, op := Go.Op.call { callee := Go.Callee.builtin Go.Builtin.len, args := #[Go.Operand.tmp 3], argTypes := #[22] }, type := 3, pos := "parser.go:141", after := #[{ on := 0, ground := Go.Ground.data }], guard := Option.none }) (v := ?_) rfl (by decide) (by kernel_rfl) (by kernel_rfl) (by kernel_rfl) (by kernel_rfl) (fun _ _ _ h => h) (Or.inl ⟨by rfl, ?_⟩) hS ?_
    rotate_left
    · intro wz hSz
      skip
      go_simp
      (try with_reducible rfl)
    try simp only [Act.put, List.setIfInBounds_toArray, List.set_cons_zero, List.set_cons_succ]
    refine anyL_ready (rs := [4, 6]) (by kernel_rfl) (by simp) ?_
    refine AllL.cons (o := { dst := Option.some 7, op := Go.Op.call { callee := Go.Callee.value (Go.Operand.func 40), args := #[Go.Operand.tmp 4, Go.Operand.tmp 6], argTypes := #[77, 3] }, type := 25, pos := "parser.go:141", after := #[{ on := 1, ground := Go.Ground.data }, { on := 3, ground := Go.Ground.data }], guard := Option.none }) rfl (fun K' hK => ?_) (AllL.cons (o := { dst := Option.some 9, op := Go.Op.buildSlice 22 1 #[(0, Go.Operand.const (Go.Value.agg #[Go.Value.int Go.IntKind.i64 0, Go.Value.bool Bool.false, Go.Value.int Go.IntKind.i64 0, Go.Value.string { data := #[] }, Go.Value.slice Option.none 0 0, Go.Value.slice Option.none 0 0, Go.Value.int Go.IntKind.i64 0]))], type := 22, pos := "parser.go:141", after := #[], guard := Option.none }) rfl (fun K' hK => ?_) AllL.nil)
    · go_simp
      go_at_call 40
      refine (cV w.drew HP.out HW.out.drew).mono ?_
      rintro e w1 ⟨⟨x, rfl, hx⟩, P1, K1⟩
      obtain ⟨p1, c1, q1, d1, rfl, -, -⟩ := (val_is _ v x).1 hx
      try go_simp
      have hold : ∀ k, k < w.heap.size → k ≠ b → w1.heap[k]? = w.heap[k]? := fun k hk hn => K1.block k hk hn
      have hz1 : w.heap.size ≤ w1.heap.size := K1.size
      have S1 : w1.cell? ⟨bi, 0, none⟩ = some (.slice A0 st.length C0) ∧ w1.cell? ⟨bp, 0, none⟩ = some (.pointer (some ⟨b, 0, none⟩)) ∧ w1.cell? ⟨bd, 0, none⟩ = some (.int .i64 (d : Int)) := ⟨K1.cell hS.1 h2, K1.cell hS.2.1 h3, K1.cell hS.2.2 h4⟩
      refine hK _ _ S1 ?_
      clear hK K'
      try simp only [Act.put, List.setIfInBounds_toArray, List.set_cons_zero, List.set_cons_succ]
      refine anyL_ready (rs := [6]) (by kernel_rfl) (by simp) ?_
      refine AllL.cons (o := { dst := Option.some 9, op := Go.Op.buildSlice 22 1 #[(0, Go.Operand.const (Go.Value.agg #[Go.Value.int Go.IntKind.i64 0, Go.Value.bool Bool.false, Go.Value.int Go.IntKind.i64 0, Go.Value.string { data := #[] }, Go.Value.slice Option.none 0 0, Go.Value.slice Option.none 0 0, Go.Value.int Go.IntKind.i64 0]))], type := 22, pos := "parser.go:141", after := #[], guard := Option.none }) rfl (fun K' hK => ?_) AllL.nil
      go_simp
      refine hK _ _ ⟨jcell_alloc S1.1 _, jcell_alloc S1.2.1 _, jcell_alloc S1.2.2 _⟩ ?_
      clear hK K'
      try simp only [Act.put, List.setIfInBounds_toArray, List.set_cons_zero, List.set_cons_succ]
      have hold3 : ∀ k, k < w1.heap.size → (w1.alloc (.cells #[.int .i64 0, .bool false, .int .i64 0, .string ⟨#[]⟩, .slice none 0 0, .slice none 0 0, .int .i64 0] 25)).heap[k]? = w1.heap[k]? := fun k hk => heap_alloc_old w1 _ hk
      have hown3 : (w1.alloc (.cells #[.int .i64 0, .bool false, .int .i64 0, .string ⟨#[]⟩, .slice none 0 0, .slice none 0 0, .int .i64 0] 25)).ownsRow B 25 7 (.slice A0 st.length C0) st.length xs := (Pj.row (w := w.drew) K1 HO.out (fun x hx => by omega)).alloc _
      have hnews3 : ∀ j u, ([.int .i64 0, .bool false, .int .i64 0, .string ⟨#[]⟩, .slice none 0 0, .slice none 0 0, .int .i64 0] : List Value)[j]? = some u → (w1.alloc (.cells #[.int .i64 0, .bool false, .int .i64 0, .string ⟨#[]⟩, .slice none 0 0, .slice none 0 0, .int .i64 0] 25)).cell? ((⟨w1.heap.size, 0, none⟩ : Addr).add j) = some u := World.news_of_block (cs := #[.int .i64 0, .bool false, .int .i64 0, .string ⟨#[]⟩, .slice none 0 0, .slice none 0 0, .int .i64 0]) (heap_alloc_new w1 _)
      have hH3 : (w1.alloc (.cells #[.int .i64 0, .bool false, .int .i64 0, .string ⟨#[]⟩, .slice none 0 0, .slice none 0 0, .int .i64 0] 25)).heap.size = w1.heap.size + 1 := by simp
      have HX := Lib.hid hx
      have HP1 := Lib.hid P1
      have HK1 := Lib.hid K1
      clear hx P1 K1
      refine anyL_ready (rs := [7]) (by kernel_rfl) (by simp) ?_
      refine AllL.consD (o := { dst := Option.some 10, op := Go.Op.call { callee := Go.Callee.builtin Go.Builtin.append, args := #[Go.Operand.tmp 3, Go.Operand.tmp 9], argTypes := #[22, 22] }, type := 22, pos := "parser.go:141", after := #[{ on := 0, ground := Go.Ground.data }, { on := 6, ground := Go.Ground.data }, { on := 4, ground := Go.Ground.chain }, { on := 0, ground := Go.Ground.phase }, { on := 1, ground := Go.Ground.phase }, { on := 2, ground := Go.Ground.phase }, { on := 3, ground := Go.Ground.phase }, { on := 4, ground := Go.Ground.phase }, { on := 5, ground := Go.Ground.phase }, { on := 6, ground := Go.Ground.phase }], guard := Option.none }) rfl (by decide) (fun K' hK => ?_) AllL.nil
      refine step_append_lies _ rfl (.tmp 3) (.tmp 9) 22 rfl B 25 i0 (.agg #[.int .i64 0, .bool false, .int .i64 0, .string ⟨#[]⟩, .slice none 0 0, .slice none 0 0, .int .i64 0]) 7 96 Tryz.underlying22 hi0 hi1 hi3 hi4 rfl (by decide) (.slice A0 st.length C0) st.length xs (by simp [Act.eval]) hown3 ⟨w1.heap.size, 0, none⟩ 1 1 [.int .i64 0, .bool false, .int .i64 0, .string ⟨#[]⟩, .slice none 0 0, .slice none 0 0, .int .i64 0] (by simp [Act.eval]) rfl hnews3 (by intro u hu; simp at hu; rcases hu with rfl | rfl | rfl | rfl | rfl | rfl | rfl <;> rfl) (by decide) (by unfold maxLen; omega) (by omega) (by omega) (w1.heap.size + 1) hH3 ?_
      intro g cap w4 hown4 hgrow4 hat4 hlt4
      obtain ⟨⟨a4, f4⟩, ⟨t0, t1, t2, t3, t4, t5, t6⟩, ⟨y0, y1, y2, y3, y4, y5, y6⟩⟩ := HPO.out (w1.alloc (.cells #[.int .i64 0, .bool false, .int .i64 0, .string ⟨#[]⟩, .slice none 0 0, .slice none 0 0, .int .i64 0] 25)) (fun k hk hn => (hold3 k (by omega)).trans (hold k hk hn)) (by omega) g cap w4 hown4 hgrow4
      have hgi : g ≠ bi ∧ bi ≠ g := by
        rcases hat4 with e | e
        · exact HNE.out g e
        · constructor <;> omega
      obtain ⟨hgi, hig⟩ := hgi
      have hcm : ∀ (wx : World) (k : Nat) (u : Value), (wx.setCell ⟨bi, 0, none⟩ (.slice (some ⟨g, 0, none⟩) (st.length + 1) cap)).setCell ⟨g, k, none⟩ u = (wx.setCell ⟨g, k, none⟩ u).setCell ⟨bi, 0, none⟩ (.slice (some ⟨g, 0, none⟩) (st.length + 1) cap) := fun wx k u => jset_comm _ _ _ _ _ hig
      have hres := jrow_store7 hown4 hxl (.int .i64 v.kind) (.bool v.b) (.int .i64 v.n) (.string v.s) (.slice p1 v.items.length c1) (.slice q1 v.mems.length d1) (.int .i64 v.at')
      have hfin : OutL (ItE wS B b bi bp bd d) w0 b s (.returned (.tuple #[])) ((((((((w4.setCell ⟨g, st.length * 7, none⟩ (.int .i64 v.kind)).setCell ⟨g, st.length * 7 + 1, none⟩ (.bool v.b)).setCell ⟨g, st.length * 7 + 2, none⟩ (.int .i64 v.n)).setCell ⟨g, st.length * 7 + 3, none⟩ (.string v.s)).setCell ⟨g, st.length * 7 + 4, none⟩ (.slice p1 v.items.length c1)).setCell ⟨g, st.length * 7 + 5, none⟩ (.slice q1 v.mems.length d1)).setCell ⟨g, st.length * 7 + 6, none⟩ (.int .i64 v.at')).setCell ⟨bi, 0, none⟩ (.slice (some ⟨g, 0, none⟩) (st.length + 1) cap)) (.ok (st ++ [v]) j) := by
        have hg41 : Bj w4 bi #[.slice A0 st.length C0] 22 := (hgrow4.block bi (by have := HV.out.lt; omega) (fun e => (HNE.out bi e.symm).1 rfl)).trans ((hold3 bi (by have := HV.out.lt; omega)).trans ((hold bi HV.out.lt h2).trans HV.out))
        generalize (((((((w4.setCell ⟨g, st.length * 7, none⟩ (.int .i64 v.kind)).setCell ⟨g, st.length * 7 + 1, none⟩ (.bool v.b)).setCell ⟨g, st.length * 7 + 2, none⟩ (.int .i64 v.n)).setCell ⟨g, st.length * 7 + 3, none⟩ (.string v.s)).setCell ⟨g, st.length * 7 + 4, none⟩ (.slice p1 v.items.length c1)).setCell ⟨g, st.length * 7 + 5, none⟩ (.slice q1 v.mems.length d1)).setCell ⟨g, st.length * 7 + 6, none⟩ (.int .i64 v.at')) = W7 at *
        have hb7 : Bj W7 bi #[.slice A0 st.length C0] 22 := (hres.2.block bi hg41.lt (fun e => by injection e with e; exact hig e)).trans hg41
        have hz4 := hgrow4.size
        have hz7 := hres.2.size
        refine ItE.put HE.out hSi hb hbB hbi hiB hpB hdB h2 h3 h4 h5 h6 HW.out HV.out HO.out HR.out (n1 := w.heap.size) (by first | exact Nat.le_refl _ | omega) HX.out hij hjs HP1.out (g := g) (cap := cap) (hat4.imp id (fun e => by omega)) (by simp [World.setCell]; omega) hz1 (hres.2.os.trans (hgrow4.os.trans HK1.out.os)) (hres.2.tape.trans (hgrow4.tape.trans HK1.out.tape)) (hres.2.output.trans (hgrow4.output.trans HK1.out.output)) hold (fun k hk hkg hki hko => ?_) (hb7.set 0 _) (jrow_same hres.1 (fun k hk => Below.heap_setCell _ _ _ _ (fun e => by simp only [Value.ownBlock, Option.some.injEq] at hk; exact hgi (hk.trans e))))
        rw [Below.heap_setCell _ _ _ _ hki, hres.2.block k (by omega) (fun e => by injection e with e; exact hkg e), hgrow4.block k (by omega) (fun e => hko e.symm)]
        all_goals exact hold3 k hk
      have HF := Lib.hid hfin
      clear hfin hres hown4 hgrow4 hown3 hnews3 hold hold3 hat4
      refine hK _ _ ?_
      clear hK K'
      try simp only [Act.put, List.setIfInBounds_toArray, List.set_cons_zero, List.set_cons_succ]
      refine anyL_takeD (i := 8) (oi := { dst := Option.some 11, op := Go.Op.indexAddr 22 (Go.Operand.tmp 10) (Go.Operand.tmp 8), type := 0, pos := "parser.go:141", after := #[{ on := 7, ground := Go.Ground.data }, { on := 5, ground := Go.Ground.data }, { on := 0, ground := Go.Ground.phase }, { on := 1, ground := Go.Ground.phase }, { on := 2, ground := Go.Ground.phase }, { on := 3, ground := Go.Ground.phase }, { on := 4, ground := Go.Ground.phase }, { on := 5, ground := Go.Ground.phase }, { on := 6, ground := Go.Ground.phase }, { on := 7, ground := Go.Ground.phase }, { on := 10, ground := Go.Ground.gcOnly Go.Departure.appendInPlace }], guard := Option.none }) (v := ?_) rfl (by decide) (by kernel_rfl) (by kernel_rfl) (by kernel_rfl) (fun _ _ _ h => h) (Or.inl ⟨by rfl, ?_⟩) ?_
      rotate_left
      · intro wz _
        go_simp
        (try with_reducible rfl)
      try simp only [Act.put, List.setIfInBounds_toArray, List.set_cons_zero, List.set_cons_succ]
      refine anyL_ready (rs := [9, 10]) (by kernel_rfl) (by simp) ?_
      refine AllL.consD (o := { dst := Option.none, op := Go.Op.store 25 (Go.Operand.tmp 11) (Go.Operand.tmp 7), type := 0, pos := "parser.go:141", after := #[{ on := 8, ground := Go.Ground.data }, { on := 4, ground := Go.Ground.data }, { on := 7, ground := Go.Ground.chain }, { on := 0, ground := Go.Ground.phase }, { on := 1, ground := Go.Ground.phase }, { on := 2, ground := Go.Ground.phase }, { on := 3, ground := Go.Ground.phase }, { on := 4, ground := Go.Ground.phase }, { on := 5, ground := Go.Ground.phase }, { on := 6, ground := Go.Ground.phase }, { on := 7, ground := Go.Ground.phase }, { on := 10, ground := Go.Ground.gcOnly Go.Departure.appendInPlace }], guard := Option.none }) rfl (by decide) (fun K' hK => ?_) (AllL.consD (o := { dst := Option.none, op := Go.Op.store 22 (Go.Operand.tmp 0) (Go.Operand.tmp 10), type := 0, pos := "parser.go:141", after := #[{ on := 7, ground := Go.Ground.data }, { on := 7, ground := Go.Ground.chain }, { on := 9, ground := Go.Ground.textOnly Go.Departure.appendInPlace }, { on := 0, ground := Go.Ground.phase }, { on := 1, ground := Go.Ground.phase }, { on := 2, ground := Go.Ground.phase }, { on := 3, ground := Go.Ground.phase }, { on := 4, ground := Go.Ground.phase }, { on := 5, ground := Go.Ground.phase }, { on := 6, ground := Go.Ground.phase }, { on := 7, ground := Go.Ground.phase }, { on := 8, ground := Go.Ground.textOnly Go.Departure.appendInPlace }, { on := 9, ground := Go.Ground.textOnly Go.Departure.appendInPlace }], guard := Option.none }) rfl (by decide) (fun K' hK => ?_) AllL.nil)
      · go_simp
        refine hK _ _ ?_
        clear hK K'
        try simp only [Act.put, List.setIfInBounds_toArray, List.set_cons_zero, List.set_cons_succ]
        refine anyL_ready (rs := [10]) (by kernel_rfl) (by simp) ?_
        refine AllL.consD (o := { dst := Option.none, op := Go.Op.store 22 (Go.Operand.tmp 0) (Go.Operand.tmp 10), type := 0, pos := "parser.go:141", after := #[{ on := 7, ground := Go.Ground.data }, { on := 7, ground := Go.Ground.chain }, { on := 9, ground := Go.Ground.textOnly Go.Departure.appendInPlace }, { on := 0, ground := Go.Ground.phase }, { on := 1, ground := Go.Ground.phase }, { on := 2, ground := Go.Ground.phase }, { on := 3, ground := Go.Ground.phase }, { on := 4, ground := Go.Ground.phase }, { on := 5, ground := Go.Ground.phase }, { on := 6, ground := Go.Ground.phase }, { on := 7, ground := Go.Ground.phase }, { on := 8, ground := Go.Ground.textOnly Go.Departure.appendInPlace }, { on := 9, ground := Go.Ground.textOnly Go.Departure.appendInPlace }], guard := Option.none }) rfl (by decide) (fun K' hK => ?_) AllL.nil
        go_simp
        refine hK _ _ ?_
        clear hK K'
        refine anyL_done (by kernel_rfl) ?_ _
        exact bodyPost_end (results_none rfl _ _ _) rfl HF.out
      · go_simp
        refine hK _ _ ?_
        clear hK K'
        try simp only [Act.put, List.setIfInBounds_toArray, List.set_cons_zero, List.set_cons_succ]
        refine anyL_ready (rs := [9]) (by kernel_rfl) (by simp) ?_
        refine AllL.consD (o := { dst := Option.none, op := Go.Op.store 25 (Go.Operand.tmp 11) (Go.Operand.tmp 7), type := 0, pos := "parser.go:141", after := #[{ on := 8, ground := Go.Ground.data }, { on := 4, ground := Go.Ground.data }, { on := 7, ground := Go.Ground.chain }, { on := 0, ground := Go.Ground.phase }, { on := 1, ground := Go.Ground.phase }, { on := 2, ground := Go.Ground.phase }, { on := 3, ground := Go.Ground.phase }, { on := 4, ground := Go.Ground.phase }, { on := 5, ground := Go.Ground.phase }, { on := 6, ground := Go.Ground.phase }, { on := 7, ground := Go.Ground.phase }, { on := 10, ground := Go.Ground.gcOnly Go.Departure.appendInPlace }], guard := Option.none }) rfl (by decide) (fun K' hK => ?_) AllL.nil
        go_simp
        refine hK _ _ ?_
        clear hK K'
        refine anyL_done (by kernel_rfl) ?_ _
        try simp only [hcm]
        exact bodyPost_end (results_none rfl _ _ _) rfl HF.out
    · go_simp
      have S0 : (w.alloc (.cells #[.int .i64 0, .bool false, .int .i64 0, .string ⟨#[]⟩, .slice none 0 0, .slice none 0 0, .int .i64 0] 25)).drew.cell? ⟨bi, 0, none⟩ = some (.slice A0 st.length C0) ∧ (w.alloc (.cells #[.int .i64 0, .bool false, .int .i64 0, .string ⟨#[]⟩, .slice none 0 0, .slice none 0 0, .int .i64 0] 25)).drew.cell? ⟨bp, 0, none⟩ = some (.pointer (some ⟨b, 0, none⟩)) ∧ (w.alloc (.cells #[.int .i64 0, .bool false, .int .i64 0, .string ⟨#[]⟩, .slice none 0 0, .slice none 0 0, .int .i64 0] 25)).drew.cell? ⟨bd, 0, none⟩ = some (.int .i64 (d : Int)) := ⟨jcell_alloc hS.1 _, jcell_alloc hS.2.1 _, jcell_alloc hS.2.2 _⟩
      refine hK _ _ S0 ?_
      clear hK K'
      try simp only [Act.put, List.setIfInBounds_toArray, List.set_cons_zero, List.set_cons_succ]
      refine anyL_ready (rs := [4]) (by kernel_rfl) (by simp) ?_
      refine AllL.cons (o := { dst := Option.some 7, op := Go.Op.call { callee := Go.Callee.value (Go.Operand.func 40), args := #[Go.Operand.tmp 4, Go.Operand.tmp 6], argTypes := #[77, 3] }, type := 25, pos := "parser.go:141", after := #[{ on := 1, ground := Go.Ground.data }, { on := 3, ground := Go.Ground.data }], guard := Option.none }) rfl (fun K' hK => ?_) AllL.nil
      go_simp
      go_at_call 40
      have b0 : Below w.heap.size w ((w.alloc (.cells #[.int .i64 0, .bool false, .int .i64 0, .string ⟨#[]⟩, .slice none 0 0, .slice none 0 0, .int .i64 0] 25)).drew) := ((Below.refl _ _).alloc (Nat.le_refl _) _).drew
      refine (cV ((w.alloc (.cells #[.int .i64 0, .bool false, .int .i64 0, .string ⟨#[]⟩, .slice none 0 0, .slice none 0 0, .int .i64 0] 25)).drew) (HP.out.more b0) (HW.out.trans (b0.mono HW.out.size))).mono ?_
      rintro e w1 ⟨⟨x, rfl, hx⟩, P1, K1⟩
      obtain ⟨p1, c1, q1, d1, rfl, -, -⟩ := (val_is _ v x).1 hx
      try go_simp
      have hz0 : ((w.alloc (.cells #[.int .i64 0, .bool false, .int .i64 0, .string ⟨#[]⟩, .slice none 0 0, .slice none 0 0, .int .i64 0] 25)).drew).heap.size = w.heap.size + 1 := by simp
      have hold : ∀ k, k < w.heap.size → k ≠ b → w1.heap[k]? = w.heap[k]? := fun k hk hn => (K1.block k (by omega) hn).trans (b0.block k hk)
      have hz1 : w.heap.size ≤ w1.heap.size := by have := K1.size; omega
      have S1 : w1.cell? ⟨bi, 0, none⟩ = some (.slice A0 st.length C0) ∧ w1.cell? ⟨bp, 0, none⟩ = some (.pointer (some ⟨b, 0, none⟩)) ∧ w1.cell? ⟨bd, 0, none⟩ = some (.int .i64 (d : Int)) := ⟨K1.cell S0.1 h2, K1.cell S0.2.1 h3, K1.cell S0.2.2 h4⟩
      refine hK _ _ S1 ?_
      clear hK K'
      try simp only [Act.put, List.setIfInBounds_toArray, List.set_cons_zero, List.set_cons_succ]
      have hold3 : ∀ k, k < w1.heap.size → w1.heap[k]? = w1.heap[k]? := fun _ _ => rfl
      have hown3 : w1.ownsRow B 25 7 (.slice A0 st.length C0) st.length xs := Pj.row (w := (w.alloc (.cells #[.int .i64 0, .bool false, .int .i64 0, .string ⟨#[]⟩, .slice none 0 0, .slice none 0 0, .int .i64 0] 25)).drew) K1 (HO.out.alloc _).drew (fun x hx => by omega)
      have hwlt : w.heap.size ≠ b := by have := HP.out.lt; omega
      have hnews3 : ∀ j u, ([.int .i64 0, .bool false, .int .i64 0, .string ⟨#[]⟩, .slice none 0 0, .slice none 0 0, .int .i64 0] : List Value)[j]? = some u → w1.cell? ((⟨w.heap.size, 0, none⟩ : Addr).add j) = some u := World.news_of_block (cs := #[.int .i64 0, .bool false, .int .i64 0, .string ⟨#[]⟩, .slice none 0 0, .slice none 0 0, .int .i64 0]) ((K1.block w.heap.size (by omega) hwlt).trans (heap_alloc_new w _))
      have hH3 : w1.heap.size = w1.heap.size := rfl
      have HX := Lib.hid hx
      have HP1 := Lib.hid P1
      have HK1 := Lib.hid K1
      clear hx P1 K1
      refine anyL_ready (rs := [7]) (by kernel_rfl) (by simp) ?_
      refine AllL.consD (o := { dst := Option.some 10, op := Go.Op.call { callee := Go.Callee.builtin Go.Builtin.append, args := #[Go.Operand.tmp 3, Go.Operand.tmp 9], argTypes := #[22, 22] }, type := 22, pos := "parser.go:141", after := #[{ on := 0, ground := Go.Ground.data }, { on := 6, ground := Go.Ground.data }, { on := 4, ground := Go.Ground.chain }, { on := 0, ground := Go.Ground.phase }, { on := 1, ground := Go.Ground.phase }, { on := 2, ground := Go.Ground.phase }, { on := 3, ground := Go.Ground.phase }, { on := 4, ground := Go.Ground.phase }, { on := 5, ground := Go.Ground.phase }, { on := 6, ground := Go.Ground.phase }], guard := Option.none }) rfl (by decide) (fun K' hK => ?_) AllL.nil
      refine step_append_lies _ rfl (.tmp 3) (.tmp 9) 22 rfl B 25 i0 (.agg #[.int .i64 0, .bool false, .int .i64 0, .string ⟨#[]⟩, .slice none 0 0, .slice none 0 0, .int .i64 0]) 7 96 Tryz.underlying22 hi0 hi1 hi3 hi4 rfl (by decide) (.slice A0 st.length C0) st.length xs (by simp [Act.eval]) hown3 ⟨w.heap.size, 0, none⟩ 1 1 [.int .i64 0, .bool false, .int .i64 0, .string ⟨#[]⟩, .slice none 0 0, .slice none 0 0, .int .i64 0] (by simp [Act.eval]) rfl hnews3 (by intro u hu; simp at hu; rcases hu with rfl | rfl | rfl | rfl | rfl | rfl | rfl <;> rfl) (by decide) (by unfold maxLen; omega) (by omega) (by omega) w1.heap.size hH3 ?_
      intro g cap w4 hown4 hgrow4 hat4 hlt4
      obtain ⟨⟨a4, f4⟩, ⟨t0, t1, t2, t3, t4, t5, t6⟩, ⟨y0, y1, y2, y3, y4, y5, y6⟩⟩ := HPO.out w1 (fun k hk hn => (hold3 k (by omega)).trans (hold k hk hn)) (by omega) g cap w4 hown4 hgrow4
      have hgi : g ≠ bi ∧ bi ≠ g := by
        rcases hat4 with e | e
        · exact HNE.out g e
        · constructor <;> omega
      obtain ⟨hgi, hig⟩ := hgi
      have hcm : ∀ (wx : World) (k : Nat) (u : Value), (wx.setCell ⟨bi, 0, none⟩ (.slice (some ⟨g, 0, none⟩) (st.length + 1) cap)).setCell ⟨g, k, none⟩ u = (wx.setCell ⟨g, k, none⟩ u).setCell ⟨bi, 0, none⟩ (.slice (some ⟨g, 0, none⟩) (st.length + 1) cap) := fun wx k u => jset_comm _ _ _ _ _ hig
      have hres := jrow_store7 hown4 hxl (.int .i64 v.kind) (.bool v.b) (.int .i64 v.n) (.string v.s) (.slice p1 v.items.length c1) (.slice q1 v.mems.length d1) (.int .i64 v.at')
      have hfin : OutL (ItE wS B b bi bp bd d) w0 b s (.returned (.tuple #[])) ((((((((w4.setCell ⟨g, st.length * 7, none⟩ (.int .i64 v.kind)).setCell ⟨g, st.length * 7 + 1, none⟩ (.bool v.b)).setCell ⟨g, st.length * 7 + 2, none⟩ (.int .i64 v.n)).setCell ⟨g, st.length * 7 + 3, none⟩ (.string v.s)).setCell ⟨g, st.length * 7 + 4, none⟩ (.slice p1 v.items.length c1)).setCell ⟨g, st.length * 7 + 5, none⟩ (.slice q1 v.mems.length d1)).setCell ⟨g, st.length * 7 + 6, none⟩ (.int .i64 v.at')).setCell ⟨bi, 0, none⟩ (.slice (some ⟨g, 0, none⟩) (st.length + 1) cap)) (.ok (st ++ [v]) j) := by
        have hg41 : Bj w4 bi #[.slice A0 st.length C0] 22 := (hgrow4.block bi (by have := HV.out.lt; omega) (fun e => (HNE.out bi e.symm).1 rfl)).trans ((hold3 bi (by have := HV.out.lt; omega)).trans ((hold bi HV.out.lt h2).trans HV.out))
        generalize (((((((w4.setCell ⟨g, st.length * 7, none⟩ (.int .i64 v.kind)).setCell ⟨g, st.length * 7 + 1, none⟩ (.bool v.b)).setCell ⟨g, st.length * 7 + 2, none⟩ (.int .i64 v.n)).setCell ⟨g, st.length * 7 + 3, none⟩ (.string v.s)).setCell ⟨g, st.length * 7 + 4, none⟩ (.slice p1 v.items.length c1)).setCell ⟨g, st.length * 7 + 5, none⟩ (.slice q1 v.mems.length d1)).setCell ⟨g, st.length * 7 + 6, none⟩ (.int .i64 v.at')) = W7 at *
        have hb7 : Bj W7 bi #[.slice A0 st.length C0] 22 := (hres.2.block bi hg41.lt (fun e => by injection e with e; exact hig e)).trans hg41
        have hz4 := hgrow4.size
        have hz7 := hres.2.size
        refine ItE.put HE.out hSi hb hbB hbi hiB hpB hdB h2 h3 h4 h5 h6 HW.out HV.out HO.out HR.out (n1 := ((w.alloc (.cells #[.int .i64 0, .bool false, .int .i64 0, .string ⟨#[]⟩, .slice none 0 0, .slice none 0 0, .int .i64 0] 25)).drew).heap.size) (by first | exact Nat.le_refl _ | omega) HX.out hij hjs HP1.out (g := g) (cap := cap) (hat4.imp id (fun e => by omega)) (by simp [World.setCell]; omega) hz1 (hres.2.os.trans (hgrow4.os.trans HK1.out.os)) (hres.2.tape.trans (hgrow4.tape.trans HK1.out.tape)) (hres.2.output.trans (hgrow4.output.trans HK1.out.output)) hold (fun k hk hkg hki hko => ?_) (hb7.set 0 _) (jrow_same hres.1 (fun k hk => Below.heap_setCell _ _ _ _ (fun e => by simp only [Value.ownBlock, Option.some.injEq] at hk; exact hgi (hk.trans e))))
        rw [Below.heap_setCell _ _ _ _ hki, hres.2.block k (by omega) (fun e => by injection e with e; exact hkg e), hgrow4.block k (by omega) (fun e => hko e.symm)]
        all_goals exact hold3 k hk
      have HF := Lib.hid hfin
      clear hfin hres hown4 hgrow4 hown3 hnews3 hold hold3 hat4
      refine hK _ _ ?_
      clear hK K'
      try simp only [Act.put, List.setIfInBounds_toArray, List.set_cons_zero, List.set_cons_succ]
      refine anyL_takeD (i := 8) (oi := { dst := Option.some 11, op := Go.Op.indexAddr 22 (Go.Operand.tmp 10) (Go.Operand.tmp 8), type := 0, pos := "parser.go:141", after := #[{ on := 7, ground := Go.Ground.data }, { on := 5, ground := Go.Ground.data }, { on := 0, ground := Go.Ground.phase }, { on := 1, ground := Go.Ground.phase }, { on := 2, ground := Go.Ground.phase }, { on := 3, ground := Go.Ground.phase }, { on := 4, ground := Go.Ground.phase }, { on := 5, ground := Go.Ground.phase }, { on := 6, ground := Go.Ground.phase }, { on := 7, ground := Go.Ground.phase }, { on := 10, ground := Go.Ground.gcOnly Go.Departure.appendInPlace }], guard := Option.none }) (v := ?_) rfl (by decide) (by kernel_rfl) (by kernel_rfl) (by kernel_rfl) (fun _ _ _ h => h) (Or.inl ⟨by rfl, ?_⟩) ?_
      rotate_left
      · intro wz _
        go_simp
        (try with_reducible rfl)
      try simp only [Act.put, List.setIfInBounds_toArray, List.set_cons_zero, List.set_cons_succ]
      refine anyL_ready (rs := [9, 10]) (by kernel_rfl) (by simp) ?_
      refine AllL.consD (o := { dst := Option.none, op := Go.Op.store 25 (Go.Operand.tmp 11) (Go.Operand.tmp 7), type := 0, pos := "parser.go:141", after := #[{ on := 8, ground := Go.Ground.data }, { on := 4, ground := Go.Ground.data }, { on := 7, ground := Go.Ground.chain }, { on := 0, ground := Go.Ground.phase }, { on := 1, ground := Go.Ground.phase }, { on := 2, ground := Go.Ground.phase }, { on := 3, ground := Go.Ground.phase }, { on := 4, ground := Go.Ground.phase }, { on := 5, ground := Go.Ground.phase }, { on := 6, ground := Go.Ground.phase }, { on := 7, ground := Go.Ground.phase }, { on := 10, ground := Go.Ground.gcOnly Go.Departure.appendInPlace }], guard := Option.none }) rfl (by decide) (fun K' hK => ?_) (AllL.consD (o := { dst := Option.none, op := Go.Op.store 22 (Go.Operand.tmp 0) (Go.Operand.tmp 10), type := 0, pos := "parser.go:141", after := #[{ on := 7, ground := Go.Ground.data }, { on := 7, ground := Go.Ground.chain }, { on := 9, ground := Go.Ground.textOnly Go.Departure.appendInPlace }, { on := 0, ground := Go.Ground.phase }, { on := 1, ground := Go.Ground.phase }, { on := 2, ground := Go.Ground.phase }, { on := 3, ground := Go.Ground.phase }, { on := 4, ground := Go.Ground.phase }, { on := 5, ground := Go.Ground.phase }, { on := 6, ground := Go.Ground.phase }, { on := 7, ground := Go.Ground.phase }, { on := 8, ground := Go.Ground.textOnly Go.Departure.appendInPlace }, { on := 9, ground := Go.Ground.textOnly Go.Departure.appendInPlace }], guard := Option.none }) rfl (by decide) (fun K' hK => ?_) AllL.nil)
      · go_simp
        refine hK _ _ ?_
        clear hK K'
        try simp only [Act.put, List.setIfInBounds_toArray, List.set_cons_zero, List.set_cons_succ]
        refine anyL_ready (rs := [10]) (by kernel_rfl) (by simp) ?_
        refine AllL.consD (o := { dst := Option.none, op := Go.Op.store 22 (Go.Operand.tmp 0) (Go.Operand.tmp 10), type := 0, pos := "parser.go:141", after := #[{ on := 7, ground := Go.Ground.data }, { on := 7, ground := Go.Ground.chain }, { on := 9, ground := Go.Ground.textOnly Go.Departure.appendInPlace }, { on := 0, ground := Go.Ground.phase }, { on := 1, ground := Go.Ground.phase }, { on := 2, ground := Go.Ground.phase }, { on := 3, ground := Go.Ground.phase }, { on := 4, ground := Go.Ground.phase }, { on := 5, ground := Go.Ground.phase }, { on := 6, ground := Go.Ground.phase }, { on := 7, ground := Go.Ground.phase }, { on := 8, ground := Go.Ground.textOnly Go.Departure.appendInPlace }, { on := 9, ground := Go.Ground.textOnly Go.Departure.appendInPlace }], guard := Option.none }) rfl (by decide) (fun K' hK => ?_) AllL.nil
        go_simp
        refine hK _ _ ?_
        clear hK K'
        refine anyL_done (by kernel_rfl) ?_ _
        exact bodyPost_end (results_none rfl _ _ _) rfl HF.out
      · go_simp
        refine hK _ _ ?_
        clear hK K'
        try simp only [Act.put, List.setIfInBounds_toArray, List.set_cons_zero, List.set_cons_succ]
        refine anyL_ready (rs := [9]) (by kernel_rfl) (by simp) ?_
        refine AllL.consD (o := { dst := Option.none, op := Go.Op.store 25 (Go.Operand.tmp 11) (Go.Operand.tmp 7), type := 0, pos := "parser.go:141", after := #[{ on := 8, ground := Go.Ground.data }, { on := 4, ground := Go.Ground.data }, { on := 7, ground := Go.Ground.chain }, { on := 0, ground := Go.Ground.phase }, { on := 1, ground := Go.Ground.phase }, { on := 2, ground := Go.Ground.phase }, { on := 3, ground := Go.Ground.phase }, { on := 4, ground := Go.Ground.phase }, { on := 5, ground := Go.Ground.phase }, { on := 6, ground := Go.Ground.phase }, { on := 7, ground := Go.Ground.phase }, { on := 10, ground := Go.Ground.gcOnly Go.Departure.appendInPlace }], guard := Option.none }) rfl (by decide) (fun K' hK => ?_) AllL.nil
        go_simp
        refine hK _ _ ?_
        clear hK K'
        refine anyL_done (by kernel_rfl) ?_ _
        try simp only [hcm]
        exact bodyPost_end (results_none rfl _ _ _) rfl HF.out
end Go.Proofs.YtdooadalkbghgaaGreatDoor
end
