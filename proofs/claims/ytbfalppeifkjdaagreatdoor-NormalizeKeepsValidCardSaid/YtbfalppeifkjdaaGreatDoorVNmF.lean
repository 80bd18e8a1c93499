/- Packed from the texts NmF. -/
import Derived.Test.YtbfalppeifkjdaaGreatDoorVLate
import Derived.Test.YtbfalppeifkjdaaGreatDoorVl1
import Derived.Test.YtbfalppeifkjdaaGreatDoorVm2
section
namespace Go.Proofs.YtbfalppeifkjdaaGreatDoor
open Go.RowKit
theorem nm_set5 {w : World} {b : Nat} {T : TypeId} {u0 u1 u2 u3 u4 : Value} (h : MBlk w b #[u0, u1, u2, u3, u4] T) (v0 v1 v2 v3 v4 : Value) : MBlk (((((w.setCell ⟨b, 0, none⟩ v0).setCell ⟨b, 1, none⟩ v1).setCell ⟨b, 2, none⟩ v2).setCell ⟨b, 3, none⟩ v3).setCell ⟨b, 4, none⟩ v4) b #[v0, v1, v2, v3, v4] T := by
  have h1 : MBlk (w.setCell ⟨b, 0, none⟩ v0) b #[v0, u1, u2, u3, u4] T := by
    have := heap_setCell_same _ b 0 _ _ v0 h
    rwa [show (#[u0, u1, u2, u3, u4] : Array Value).setIfInBounds 0 v0 = #[v0, u1, u2, u3, u4] from rfl] at this
  have h2 : MBlk ((w.setCell ⟨b, 0, none⟩ v0).setCell ⟨b, 1, none⟩ v1) b #[v0, v1, u2, u3, u4] T := by
    have := heap_setCell_same _ b 1 _ _ v1 h1
    rwa [show (#[v0, u1, u2, u3, u4] : Array Value).setIfInBounds 1 v1 = #[v0, v1, u2, u3, u4] from rfl] at this
  have h3 : MBlk (((w.setCell ⟨b, 0, none⟩ v0).setCell ⟨b, 1, none⟩ v1).setCell ⟨b, 2, none⟩ v2) b #[v0, v1, v2, u3, u4] T := by
    have := heap_setCell_same _ b 2 _ _ v2 h2
    rwa [show (#[v0, v1, u2, u3, u4] : Array Value).setIfInBounds 2 v2 = #[v0, v1, v2, u3, u4] from rfl] at this
  have h4 : MBlk ((((w.setCell ⟨b, 0, none⟩ v0).setCell ⟨b, 1, none⟩ v1).setCell ⟨b, 2, none⟩ v2).setCell ⟨b, 3, none⟩ v3) b #[v0, v1, v2, v3, u4] T := by
    have := heap_setCell_same _ b 3 _ _ v3 h3
    rwa [show (#[v0, v1, v2, u3, u4] : Array Value).setIfInBounds 3 v3 = #[v0, v1, v2, v3, u4] from rfl] at this
  have h5 : MBlk (((((w.setCell ⟨b, 0, none⟩ v0).setCell ⟨b, 1, none⟩ v1).setCell ⟨b, 2, none⟩ v2).setCell ⟨b, 3, none⟩ v3).setCell ⟨b, 4, none⟩ v4) b #[v0, v1, v2, v3, v4] T := by
    have := heap_setCell_same _ b 4 _ _ v4 h4
    rwa [show (#[v0, v1, v2, v3, u4] : Array Value).setIfInBounds 4 v4 = #[v0, v1, v2, v3, v4] from rfl] at this
  exact h5
theorem nm_below5 {B : Nat} {v x : World} {s : Nat} (h : Below B v x) (h2 : B ≤ s) (v0 v1 v2 v3 v4 : Value) : Below B v (((((x.setCell ⟨s, 0, none⟩ v0).setCell ⟨s, 1, none⟩ v1).setCell ⟨s, 2, none⟩ v2).setCell ⟨s, 3, none⟩ v3).setCell ⟨s, 4, none⟩ v4) :=
  (((((h.setCell (p := ⟨s, 0, none⟩) h2 v0).setCell (p := ⟨s, 1, none⟩) h2 v1).setCell (p := ⟨s, 2, none⟩) h2 v2).setCell (p := ⟨s, 3, none⟩) h2 v3).setCell (p := ⟨s, 4, none⟩) h2 v4)
theorem nam_new4 (w : World) (a b c d : ByteArray) : NamAt (w.alloc (.cells #[.string a, .string b, .string c, .string d] 9)) (some ⟨w.heap.size, 0, none⟩) [a, b, c, d] := fun i hi => by
  have h := heap_alloc_new w (.cells #[.string a, .string b, .string c, .string d] 9)
  refine ⟨_, rfl, ?_⟩
  match i, hi with
  | 0, _ => exact cell_of_row _ _ 0 _ _ _ h
  | 1, _ => exact cell_of_row _ _ 1 _ _ _ h
  | 2, _ => exact cell_of_row _ _ 2 _ _ _ h
  | 3, _ => exact cell_of_row _ _ 3 _ _ _ h
def NfQ (s1 s2 s3 s4 : ByteArray) (u : Int) (R : Nat) (E : EntD) : Prop := (s1.size = 0 → R = 19 ∧ E = entZ) ∧ (s1.size ≠ 0 → inTB u = true → R = 0 ∧ E = ⟨s1, s2, s3, s4, u⟩) ∧ (s1.size ≠ 0 → ¬ inTB u = true → R = 3 ∧ E = entZ)
def nfE2 : Oper := { dst := some 22, op := Go.Op.call { callee := Go.Callee.value (Go.Operand.func 30), args := #[Go.Operand.tmp 21], argTypes := #[9] }, type := 9, pos := "ref.go:27", after := #[{ on := 1, ground := Go.Ground.data }], guard := none }
def nfE5 : Oper := { dst := some 25, op := Go.Op.call { callee := Go.Callee.value (Go.Operand.func 30), args := #[Go.Operand.tmp 24], argTypes := #[9] }, type := 9, pos := "ref.go:27", after := #[{ on := 4, ground := Go.Ground.data }, { on := 2, ground := Go.Ground.chain }], guard := none }
def nfE8 : Oper := { dst := some 28, op := Go.Op.call { callee := Go.Callee.value (Go.Operand.func 30), args := #[Go.Operand.tmp 27], argTypes := #[9] }, type := 9, pos := "ref.go:27", after := #[{ on := 7, ground := Go.Ground.data }, { on := 5, ground := Go.Ground.chain }], guard := none }
def nfE11 : Oper := { dst := some 31, op := Go.Op.call { callee := Go.Callee.value (Go.Operand.func 30), args := #[Go.Operand.tmp 30], argTypes := #[9] }, type := 9, pos := "ref.go:27", after := #[{ on := 10, ground := Go.Ground.data }, { on := 8, ground := Go.Ground.chain }], guard := none }
def nfE15 : Oper := { dst := some 5, op := Go.Op.alloc 23, type := 0, pos := "ref.go:27", after := #[], guard := none }
def nfE16 : Oper := { dst := none, op := Go.Op.store 23 (Go.Operand.tmp 5) (Go.Operand.tmp 34), type := 0, pos := "ref.go:27", after := #[{ on := 15, ground := Go.Ground.data }, { on := 14, ground := Go.Ground.data }, { on := 11, ground := Go.Ground.chain }, { on := 0, ground := Go.Ground.phase }, { on := 1, ground := Go.Ground.phase }, { on := 2, ground := Go.Ground.phase }, { on := 3, ground := Go.Ground.phase }, { on := 4, ground := Go.Ground.phase }, { on := 5, ground := Go.Ground.phase }, { on := 6, ground := Go.Ground.phase }, { on := 7, ground := Go.Ground.phase }, { on := 8, ground := Go.Ground.phase }, { on := 9, ground := Go.Ground.phase }, { on := 10, ground := Go.Ground.phase }, { on := 11, ground := Go.Ground.phase }, { on := 12, ground := Go.Ground.phase }, { on := 13, ground := Go.Ground.phase }, { on := 14, ground := Go.Ground.phase }, { on := 15, ground := Go.Ground.phase }], guard := none }
set_option maxRecDepth 100000 in
set_option maxHeartbeats 16000000 in
theorem nref_Entry (x : EntD) (w : World) (h1 : x.id.size ≤ 1000000000) (h2 : x.title.size ≤ 1000000000) (h3 : x.link.size ≤ 1000000000) (h4 : x.content.size ≤ 1000000000) :
    Calls Tryz.prog 12 #[EntV x] w fun e w' => e = .returned (.tuple #[EntV (nrmE x), .int .i64 (entX x)]) ∧ Below w.heap.size w w' := by
  have k1 := fun wx => ref_Collapse x.id wx (by omega)
  have k2 := fun wx => ref_Collapse x.title wx (by omega)
  have k3 := fun wx => ref_Collapse x.link wx (by omega)
  have k4 := fun wx => ref_Collapse x.content wx (by omega)
  obtain ⟨W2, hW2⟩ : ∃ W2, W2 = (w.alloc (.cells #[.string x.id, .string x.title, .string x.link, .string x.content, .int .i64 x.upd] 23)).alloc (.cells #[.string ⟨#[]⟩, .string ⟨#[]⟩, .string ⟨#[]⟩, .string ⟨#[]⟩, .int .i64 0] 23) := ⟨_, rfl⟩
  have hB : Below w.heap.size w W2 := by rw [hW2]; exact ((Below.refl _ _).alloc (Nat.le_refl _) _).alloc (by simp) _
  have hX : EBox W2 w.heap.size x := by rw [hW2]; exact (EBox.new w x).below ((Below.refl _ _).alloc (Nat.le_refl _) _)
  have hR : MBlk W2 (w.heap.size + 1) #[.string ⟨#[]⟩, .string ⟨#[]⟩, .string ⟨#[]⟩, .string ⟨#[]⟩, .int .i64 0] 23 := by
    have := heap_alloc_new (w.alloc (.cells #[.string x.id, .string x.title, .string x.link, .string x.content, .int .i64 x.upd] 23)) (.cells #[.string ⟨#[]⟩, .string ⟨#[]⟩, .string ⟨#[]⟩, .string ⟨#[]⟩, .int .i64 0] 23)
    rw [World.size_alloc] at this
    rw [hW2]
    exact this
  obtain ⟨W3, hW3⟩ : ∃ W3, W3 = W2.alloc (.cells #[.string x.id, .string x.title, .string x.link, .string x.content] 9) := ⟨_, rfl⟩
  have b3 : Below W2.heap.size W2 W3 := by rw [hW3]; exact (Below.refl _ _).alloc (Nat.le_refl _) _
  have cC : Calls Tryz.prog 29 #[.slice (some ⟨W2.heap.size, 0, none⟩) 4 4] W3 fun e w' => e = .returned (.int .i64 (chkLs [x.id, x.title, x.link, x.content])) ∧ Below W3.heap.size W3 w' := by
    refine nref_check [x.id, x.title, x.link, x.content] (some ⟨W2.heap.size, 0, none⟩) 4 W3 (by rw [hW3]; exact nam_new4 _ _ _ _ _) (fun s hs => ?_) (by show 4 ≤ _; omega)
    simp only [List.mem_cons, List.not_mem_nil, or_false] at hs
    rcases hs with rfl | rfl | rfl | rfl <;> omega
  have HX := Lib.hid hX
  have HB := Lib.hid hB
  have HR := Lib.hid hR
  have HB3 := Lib.hid b3
  clear h1 h2 h3 h4 hB hR b3
  have HSP := Lib.hid (fun (u : World) (hb : Below W2.heap.size W2 u) => (show u.cell? ⟨w.heap.size, 0, none⟩ = some (.string x.id) ∧ u.cell? ⟨w.heap.size, 1, none⟩ = some (.string x.title) ∧ u.cell? ⟨w.heap.size, 2, none⟩ = some (.string x.link) ∧ u.cell? ⟨w.heap.size, 3, none⟩ = some (.string x.content) ∧ u.cell? ⟨w.heap.size, 4, none⟩ = some (.int .i64 x.upd) from ⟨mcell hb HX.out.1, mcell hb HX.out.2.1, mcell hb HX.out.2.2.1, mcell hb HX.out.2.2.2.1, mcell hb HX.out.2.2.2.2⟩))
  obtain ⟨e0, e1, e2, e3, e4⟩ := hX
  have hfin : ∀ (wx : World) (z : EntD), Below W2.heap.size W2 wx → MBlk (((((wx.setCell ⟨w.heap.size + 1, 0, none⟩ (.string z.id)).setCell ⟨w.heap.size + 1, 1, none⟩ (.string z.title)).setCell ⟨w.heap.size + 1, 2, none⟩ (.string z.link)).setCell ⟨w.heap.size + 1, 3, none⟩ (.string z.content)).setCell ⟨w.heap.size + 1, 4, none⟩ (.int .i64 z.upd)) (w.heap.size + 1) #[.string z.id, .string z.title, .string z.link, .string z.content, .int .i64 z.upd] 23 ∧ Below w.heap.size w (((((wx.setCell ⟨w.heap.size + 1, 0, none⟩ (.string z.id)).setCell ⟨w.heap.size + 1, 1, none⟩ (.string z.title)).setCell ⟨w.heap.size + 1, 2, none⟩ (.string z.link)).setCell ⟨w.heap.size + 1, 3, none⟩ (.string z.content)).setCell ⟨w.heap.size + 1, 4, none⟩ (.int .i64 z.upd)) := fun wx z hb =>
    ⟨nm_set5 (HR.out.more hb) _ _ _ _ _, nm_below5 (HB.out.trans (hb.mono HB.out.size)) (by omega) _ _ _ _ _⟩
  have HF := Lib.hid hfin
  clear hfin
  obtain ⟨n, hn⟩ : ∃ n, chkLs [x.id, x.title, x.link, x.content] = n := ⟨_, rfl⟩
  rw [hn] at cC
  obtain ⟨N, hN⟩ : ∃ N : Int, N = (n : Int) := ⟨_, rfl⟩
  rw [← hN] at cC
  obtain ⟨s1, hs1⟩ : ∃ s, s = ofBytes (collapse x.id.data.toList) := ⟨_, rfl⟩
  obtain ⟨s2, hs2⟩ : ∃ s, s = ofBytes (collapse x.title.data.toList) := ⟨_, rfl⟩
  obtain ⟨s3, hs3⟩ : ∃ s, s = ofBytes (collapse x.link.data.toList) := ⟨_, rfl⟩
  obtain ⟨s4, hs4⟩ : ∃ s, s = ofBytes (collapse x.content.data.toList) := ⟨_, rfl⟩
  rw [← hs1] at k1
  rw [← hs2] at k2
  rw [← hs3] at k3
  rw [← hs4] at k4
  have hval : entN x = ⟨s1, s2, s3, s4, x.upd⟩ := by rw [hs1, hs2, hs3, hs4]; rfl
  have hid1 : colB x.id = s1 := hs1.symm
  have hE : nrmE x = if n = 0 ∧ s1.size ≠ 0 ∧ inTB x.upd = true then ⟨s1, s2, s3, s4, x.upd⟩ else entZ := by
    unfold nrmE entX
    rw [hn, hid1, hval]
    by_cases a : n = 0
    · rw [if_pos a]
      by_cases b : s1.size = 0
      · rw [if_pos b, if_neg (by decide), if_neg (fun h => h.2.1 b)]
      · rw [if_neg b]
        by_cases c : inTB x.upd = true
        · rw [if_pos c, if_pos rfl, if_pos ⟨a, b, c⟩]
        · rw [if_neg c, if_neg (by decide), if_neg (fun h => c h.2.2)]
    · rw [if_neg a, if_neg a, if_neg (fun h => a h.1)]
  have hX2 : entX x = if n = 0 then (if s1.size = 0 then 19 else if inTB x.upd = true then 0 else 3) else n := by
    unfold entX
    rw [hn, hid1]
  obtain ⟨R, hRx⟩ : ∃ R, entX x = R := ⟨_, rfl⟩
  obtain ⟨E, hEx⟩ : ∃ E, nrmE x = E := ⟨_, rfl⟩
  rw [hRx, hEx]
  have HRX := Lib.hid (hRx.symm.trans hX2)
  have HEX := Lib.hid (hEx.symm.trans hE)
  have HNN := Lib.hid hN
  clear hRx hEx hE hX2 hN hn hval hid1 hs1 hs2 hs3 hs4
  unfold EntV
  go_enter Tryz.func12, Tryz.ntmps12
  go_upto_region 1 with fail
  simp only [← hW2]
  clear hW2
  go_wp2_with fail
  simp only [← hW3]
  clear hW3
  refine cC.mono ?_
  rintro e w4 ⟨rfl, b4⟩
  have B4 : Below W2.heap.size W2 w4 := HB3.out.trans (b4.mono HB3.out.size)
  have SD : w4.cell? ⟨w.heap.size, 0, none⟩ = some (.string x.id) ∧ w4.cell? ⟨w.heap.size, 1, none⟩ = some (.string x.title) ∧ w4.cell? ⟨w.heap.size, 2, none⟩ = some (.string x.link) ∧ w4.cell? ⟨w.heap.size, 3, none⟩ = some (.string x.content) ∧ w4.cell? ⟨w.heap.size, 4, none⟩ = some (.int .i64 x.upd) := ⟨mcell B4 e0, mcell B4 e1, mcell B4 e2, mcell B4 e3, mcell B4 e4⟩
  have HD := Lib.hid B4
  clear b4 HB3 B4 cC e0 e1 e2 e3 e4 HX
  have hBn : w.heap.size + 2 ≤ W2.heap.size := by have := HR.out.lt; omega
  by_cases hz : N = 0
  · subst hz
    have hn0 : n = 0 := by have := HNN.out; omega
    subst hn0
    have HQ : NfQ s1 s2 s3 s4 x.upd R E := by
      have hRv := HRX.out
      have hEv := HEX.out
      rw [if_pos rfl] at hRv
      refine ⟨fun a => ⟨by rw [hRv, if_pos a], by rw [hEv, if_neg (fun h => h.2.1 a)]⟩, fun a b => ⟨by rw [hRv, if_neg a, if_pos b], by rw [hEv, if_pos ⟨rfl, a, b⟩]⟩, fun a b => ⟨by rw [hRv, if_neg a, if_neg b], by rw [hEv, if_neg (fun h => b h.2.2)]⟩⟩
    clear HRX HEX
    have HSB := Lib.hid (fun (u1 u2 : World) (hb : Below u1.heap.size u1 u2) (hss : u1.cell? ⟨w.heap.size, 0, none⟩ = some (.string x.id) ∧ u1.cell? ⟨w.heap.size, 1, none⟩ = some (.string x.title) ∧ u1.cell? ⟨w.heap.size, 2, none⟩ = some (.string x.link) ∧ u1.cell? ⟨w.heap.size, 3, none⟩ = some (.string x.content) ∧ u1.cell? ⟨w.heap.size, 4, none⟩ = some (.int .i64 x.upd)) => (show u2.cell? ⟨w.heap.size, 0, none⟩ = some (.string x.id) ∧ u2.cell? ⟨w.heap.size, 1, none⟩ = some (.string x.title) ∧ u2.cell? ⟨w.heap.size, 2, none⟩ = some (.string x.link) ∧ u2.cell? ⟨w.heap.size, 3, none⟩ = some (.string x.content) ∧ u2.cell? ⟨w.heap.size, 4, none⟩ = some (.int .i64 x.upd) from ⟨mcell hb hss.1, mcell hb hss.2.1, mcell hb hss.2.2.1, mcell hb hss.2.2.2.1, mcell hb hss.2.2.2.2⟩))
    go_upto_region 4 with fail
    go_cut [5] (fun q wc => ∃ b, W2.heap.size ≤ b ∧ q = .pointer (some ⟨b, 0, none⟩) ∧ MBlk wc b #[.string s1, .string s2, .string s3, .string s4, .int .i64 x.upd] 23 ∧ (wc.cell? ⟨w.heap.size, 0, none⟩ = some (.string x.id) ∧ wc.cell? ⟨w.heap.size, 1, none⟩ = some (.string x.title) ∧ wc.cell? ⟨w.heap.size, 2, none⟩ = some (.string x.link) ∧ wc.cell? ⟨w.heap.size, 3, none⟩ = some (.string x.content) ∧ wc.cell? ⟨w.heap.size, 4, none⟩ = some (.int .i64 x.upd)) ∧ Below W2.heap.size W2 wc)
    case first =>
      go_wp2
      have SD0 : w4.drew.cell? ⟨w.heap.size, 0, none⟩ = some (.string x.id) ∧ w4.drew.cell? ⟨w.heap.size, 1, none⟩ = some (.string x.title) ∧ w4.drew.cell? ⟨w.heap.size, 2, none⟩ = some (.string x.link) ∧ w4.drew.cell? ⟨w.heap.size, 3, none⟩ = some (.string x.content) ∧ w4.drew.cell? ⟨w.heap.size, 4, none⟩ = some (.int .i64 x.upd) := HSB.out _ _ ((Below.refl _ _).drew) SD
      have D0 := HD.out.trans (((Below.refl w4.heap.size w4).drew).mono HD.out.size)
      refine wp_region_late (S := fun w' => w'.cell? ⟨w.heap.size, 0, none⟩ = some (.string x.id) ∧ w'.cell? ⟨w.heap.size, 1, none⟩ = some (.string x.title) ∧ w'.cell? ⟨w.heap.size, 2, none⟩ = some (.string x.link) ∧ w'.cell? ⟨w.heap.size, 3, none⟩ = some (.string x.content) ∧ w'.cell? ⟨w.heap.size, 4, none⟩ = some (.int .i64 x.upd)) (D := []) (by kernel_rfl) ?_
      generalize w4.drew = Wd at *
      clear SD HD
      refine anyL_take (i := 0) (oi := { dst := some 20, op := Go.Op.fieldAddr 23 (Go.Operand.tmp 1) 0, type := 0, pos := "ref.go:27", after := #[], guard := none }) (v := ?_) rfl (by decide) (by kernel_rfl) (by kernel_rfl) (by kernel_rfl) (by kernel_rfl) (fun _ _ _ h => h) (Or.inl ⟨by rfl, ?_⟩) SD0 ?_
      rotate_left
      · intro wz hSz
        skip
        go_simp
        (try with_reducible rfl)
      try simp only [Act.put, List.setIfInBounds_toArray, List.set_cons_zero, List.set_cons_succ]
      refine anyL_take (i := 1) (oi := { dst := some 21, op := Go.Op.load 9 (Go.Operand.tmp 20), type := 9, pos := "ref.go:27", after := #[{ on := 0, ground := Go.Ground.data }], guard := none }) (v := ?_) rfl (by decide) (by kernel_rfl) (by kernel_rfl) (by kernel_rfl) (by kernel_rfl) (fun _ _ _ h => h) (Or.inl ⟨by rfl, ?_⟩) SD0 ?_
      rotate_left
      · intro wz hSz
        obtain ⟨z0, z1, z2, z3, z4⟩ := hSz
        go_simp
        (try with_reducible rfl)
      try simp only [Act.put, List.setIfInBounds_toArray, List.set_cons_zero, List.set_cons_succ]
      refine anyL_take (i := 3) (oi := { dst := some 23, op := Go.Op.fieldAddr 23 (Go.Operand.tmp 1) 1, type := 0, pos := "ref.go:27", after := #[], guard := none }) (v := ?_) rfl (by decide) (by kernel_rfl) (by kernel_rfl) (by kernel_rfl) (by kernel_rfl) (fun _ _ _ h => h) (Or.inl ⟨by rfl, ?_⟩) SD0 ?_
      rotate_left
      · intro wz hSz
        skip
        go_simp
        (try with_reducible rfl)
      try simp only [Act.put, List.setIfInBounds_toArray, List.set_cons_zero, List.set_cons_succ]
      refine anyL_take (i := 4) (oi := { dst := some 24, op := Go.Op.load 9 (Go.Operand.tmp 23), type := 9, pos := "ref.go:27", after := #[{ on := 3, ground := Go.Ground.data }], guard := none }) (v := ?_) rfl (by decide) (by kernel_rfl) (by kernel_rfl) (by kernel_rfl) (by kernel_rfl) (fun _ _ _ h => h) (Or.inl ⟨by rfl, ?_⟩) SD0 ?_
      rotate_left
      · intro wz hSz
        obtain ⟨z0, z1, z2, z3, z4⟩ := hSz
        go_simp
        (try with_reducible rfl)
      try simp only [Act.put, List.setIfInBounds_toArray, List.set_cons_zero, List.set_cons_succ]
      refine anyL_take (i := 6) (oi := { dst := some 26, op := Go.Op.fieldAddr 23 (Go.Operand.tmp 1) 2, type := 0, pos := "ref.go:27", after := #[], guard := none }) (v := ?_) rfl (by decide) (by kernel_rfl) (by kernel_rfl) (by kernel_rfl) (by kernel_rfl) (fun _ _ _ h => h) (Or.inl ⟨by rfl, ?_⟩) SD0 ?_
      rotate_left
      · intro wz hSz
        skip
        go_simp
        (try with_reducible rfl)
      try simp only [Act.put, List.setIfInBounds_toArray, List.set_cons_zero, List.set_cons_succ]
      refine anyL_take (i := 7) (oi := { dst := some 27, op := Go.Op.load 9 (Go.Operand.tmp 26), type := 9, pos := "ref.go:27", after := #[{ on := 6, ground := Go.Ground.data }], guard := none }) (v := ?_) rfl (by decide) (by kernel_rfl) (by kernel_rfl) (by kernel_rfl) (by kernel_rfl) (fun _ _ _ h => h) (Or.inl ⟨by rfl, ?_⟩) SD0 ?_
      rotate_left
      · intro wz hSz
        obtain ⟨z0, z1, z2, z3, z4⟩ := hSz
        go_simp
        (try with_reducible rfl)
      try simp only [Act.put, List.setIfInBounds_toArray, List.set_cons_zero, List.set_cons_succ]
      refine anyL_take (i := 9) (oi := { dst := some 29, op := Go.Op.fieldAddr 23 (Go.Operand.tmp 1) 3, type := 0, pos := "ref.go:27", after := #[], guard := none }) (v := ?_) rfl (by decide) (by kernel_rfl) (by kernel_rfl) (by kernel_rfl) (by kernel_rfl) (fun _ _ _ h => h) (Or.inl ⟨by rfl, ?_⟩) SD0 ?_
      rotate_left
      · intro wz hSz
        skip
        go_simp
        (try with_reducible rfl)
      try simp only [Act.put, List.setIfInBounds_toArray, List.set_cons_zero, List.set_cons_succ]
      refine anyL_take (i := 10) (oi := { dst := some 30, op := Go.Op.load 9 (Go.Operand.tmp 29), type := 9, pos := "ref.go:27", after := #[{ on := 9, ground := Go.Ground.data }], guard := none }) (v := ?_) rfl (by decide) (by kernel_rfl) (by kernel_rfl) (by kernel_rfl) (by kernel_rfl) (fun _ _ _ h => h) (Or.inl ⟨by rfl, ?_⟩) SD0 ?_
      rotate_left
      · intro wz hSz
        obtain ⟨z0, z1, z2, z3, z4⟩ := hSz
        go_simp
        (try with_reducible rfl)
      try simp only [Act.put, List.setIfInBounds_toArray, List.set_cons_zero, List.set_cons_succ]
      refine anyL_take (i := 12) (oi := { dst := some 32, op := Go.Op.fieldAddr 23 (Go.Operand.tmp 1) 4, type := 0, pos := "ref.go:27", after := #[], guard := none }) (v := ?_) rfl (by decide) (by kernel_rfl) (by kernel_rfl) (by kernel_rfl) (by kernel_rfl) (fun _ _ _ h => h) (Or.inl ⟨by rfl, ?_⟩) SD0 ?_
      rotate_left
      · intro wz hSz
        skip
        go_simp
        (try with_reducible rfl)
      try simp only [Act.put, List.setIfInBounds_toArray, List.set_cons_zero, List.set_cons_succ]
      refine anyL_take (i := 13) (oi := { dst := some 33, op := Go.Op.load 2 (Go.Operand.tmp 32), type := 2, pos := "ref.go:27", after := #[{ on := 12, ground := Go.Ground.data }], guard := none }) (v := ?_) rfl (by decide) (by kernel_rfl) (by kernel_rfl) (by kernel_rfl) (by kernel_rfl) (fun _ _ _ h => h) (Or.inl ⟨by rfl, ?_⟩) SD0 ?_
      rotate_left
      · intro wz hSz
        obtain ⟨z0, z1, z2, z3, z4⟩ := hSz
        go_simp
        (try with_reducible rfl)
      try simp only [Act.put, List.setIfInBounds_toArray, List.set_cons_zero, List.set_cons_succ]
      refine anyL_ready (rs := [2, 15]) (by kernel_rfl) (by simp) ?_
      refine AllL.cons (o := nfE2) rfl (fun K' hK => ?_) (AllL.cons (o := nfE15) rfl (fun K' hK => ?_) AllL.nil)
      · rw [if_pos (by rfl)]
        unfold nfE2
        go_simp
        go_at_call 30
        refine (k1 _).mono ?_
        rintro e1 V1 ⟨rfl, bb⟩
        have SD1 := HSB.out _ _ bb SD0
        have D1 := D0.trans (bb.mono D0.size)
        refine hK _ _ SD1 ?_
        clear hK K' bb SD0 D0
        try simp only [Act.put, List.setIfInBounds_toArray, List.set_cons_zero, List.set_cons_succ]
        refine anyL_ready (rs := [5, 15]) (by kernel_rfl) (by simp) ?_
        refine AllL.cons (o := nfE5) rfl (fun K' hK => ?_) (AllL.cons (o := nfE15) rfl (fun K' hK => ?_) AllL.nil)
        · rw [if_pos (by rfl)]
          unfold nfE5
          go_simp
          go_at_call 30
          refine (k2 _).mono ?_
          rintro e2 V2 ⟨rfl, bb⟩
          have SD2 := HSB.out _ _ bb SD1
          have D2 := D1.trans (bb.mono D1.size)
          refine hK _ _ SD2 ?_
          clear hK K' bb SD1 D1
          try simp only [Act.put, List.setIfInBounds_toArray, List.set_cons_zero, List.set_cons_succ]
          refine anyL_ready (rs := [8, 15]) (by kernel_rfl) (by simp) ?_
          refine AllL.cons (o := nfE8) rfl (fun K' hK => ?_) (AllL.cons (o := nfE15) rfl (fun K' hK => ?_) AllL.nil)
          · rw [if_pos (by rfl)]
            unfold nfE8
            go_simp
            go_at_call 30
            refine (k3 _).mono ?_
            rintro e3 V3 ⟨rfl, bb⟩
            have SD3 := HSB.out _ _ bb SD2
            have D3 := D2.trans (bb.mono D2.size)
            refine hK _ _ SD3 ?_
            clear hK K' bb SD2 D2
            try simp only [Act.put, List.setIfInBounds_toArray, List.set_cons_zero, List.set_cons_succ]
            refine anyL_ready (rs := [11, 15]) (by kernel_rfl) (by simp) ?_
            refine AllL.cons (o := nfE11) rfl (fun K' hK => ?_) (AllL.cons (o := nfE15) rfl (fun K' hK => ?_) AllL.nil)
            · rw [if_pos (by rfl)]
              unfold nfE11
              go_simp
              go_at_call 30
              refine (k4 _).mono ?_
              rintro e4 V4 ⟨rfl, bb⟩
              have SD4 := HSB.out _ _ bb SD3
              have D4 := D3.trans (bb.mono D3.size)
              refine hK _ _ SD4 ?_
              clear hK K' bb SD3 D3
              try simp only [Act.put, List.setIfInBounds_toArray, List.set_cons_zero, List.set_cons_succ]
              refine anyL_take (i := 14) (oi := { dst := some 34, op := Go.Op.build 23 #[(0, Go.Operand.tmp 22), (1, Go.Operand.tmp 25), (2, Go.Operand.tmp 28), (3, Go.Operand.tmp 31), (4, Go.Operand.tmp 33)], type := 23, pos := "ref.go:27", after := #[{ on := 2, ground := Go.Ground.data }, { on := 5, ground := Go.Ground.data }, { on := 8, ground := Go.Ground.data }, { on := 11, ground := Go.Ground.data }, { on := 13, ground := Go.Ground.data }], guard := none }) (v := ?_) rfl (by decide) (by kernel_rfl) (by kernel_rfl) (by kernel_rfl) (by kernel_rfl) (fun _ _ _ h => h) (Or.inl ⟨by rfl, ?_⟩) SD4 ?_
              rotate_left
              · intro wz hSz
                skip
                go_simp
                (try with_reducible rfl)
              try simp only [Act.put, List.setIfInBounds_toArray, List.set_cons_zero, List.set_cons_succ]
              refine anyL_ready (rs := [15]) (by kernel_rfl) (by simp) ?_
              refine AllL.cons (o := nfE15) rfl (fun K' hK => ?_) AllL.nil
              rw [if_pos (by rfl)]
              unfold nfE15
              go_simp
              obtain ⟨V5, hV5⟩ : ∃ V, V = V4.alloc (.cells #[.string ⟨#[]⟩, .string ⟨#[]⟩, .string ⟨#[]⟩, .string ⟨#[]⟩, .int .i64 0] 23) := ⟨_, rfl⟩
              obtain ⟨bq, hbq⟩ : ∃ n, n = V4.heap.size := ⟨_, rfl⟩
              have bb : Below V4.heap.size V4 V5 := by rw [hV5]; exact (Below.refl _ _).alloc (Nat.le_refl _) _
              have M5 : MBlk V5 bq #[.string ⟨#[]⟩, .string ⟨#[]⟩, .string ⟨#[]⟩, .string ⟨#[]⟩, .int .i64 0] 23 := by rw [hV5, hbq]; exact heap_alloc_new _ _
              have Gq : W2.heap.size ≤ bq := by rw [hbq]; exact D4.size
              have SD5 := HSB.out _ _ bb SD4
              have D5 := D4.trans (bb.mono D4.size)
              simp only [← hV5, ← hbq]
              refine hK _ _ SD5 ?_
              clear hK K' hV5 hbq bb SD4 D4
              try simp only [Act.put, List.setIfInBounds_toArray, List.set_cons_zero, List.set_cons_succ]
              refine anyL_ready (rs := [16]) (by kernel_rfl) (by simp) ?_
              refine AllL.cons (o := nfE16) rfl (fun K' hK => ?_) AllL.nil
              rw [if_pos (by rfl)]
              unfold nfE16
              have hM := M5
              have r0 := hM.cell 0
              have r1 := hM.cell 1
              have r2 := hM.cell 2
              have r3 := hM.cell 3
              have r4 := hM.cell 4
              simp only [List.getElem?_toArray, List.getElem?_cons_zero, List.getElem?_cons_succ] at r0 r1 r2 r3 r4
              have t0 := hM.fr 0
              have t1 := hM.fr 1
              have t2 := hM.fr 2
              have t3 := hM.fr 3
              have t4 := hM.fr 4
              go_simp
              obtain ⟨V6, hV6⟩ : ∃ V, V = (((((V5.setCell ⟨bq, 0, none⟩ (.string s1)).setCell ⟨bq, 1, none⟩ (.string s2)).setCell ⟨bq, 2, none⟩ (.string s3)).setCell ⟨bq, 3, none⟩ (.string s4)).setCell ⟨bq, 4, none⟩ (.int .i64 x.upd)) := ⟨_, rfl⟩
              have M6 : MBlk V6 bq #[.string s1, .string s2, .string s3, .string s4, .int .i64 x.upd] 23 := by rw [hV6]; exact nm_set5 M5 _ _ _ _ _
              have D6 : Below W2.heap.size W2 V6 := by rw [hV6]; exact nm_below5 D5 Gq _ _ _ _ _
              have SD6 := HSP.out _ D6
              simp only [← hV6]
              refine hK _ _ SD6 ?_
              clear hK K' hV6 r0 r1 r2 r3 r4 t0 t1 t2 t3 t4 hM M5 SD5 D5
              try simp only [Act.put, List.setIfInBounds_toArray, List.set_cons_zero, List.set_cons_succ]
              refine anyL_done (by kernel_rfl) ?_ _
              go_wp2
              go_meet
              exact ⟨bq, Gq, rfl, M6, SD6, D6⟩
            · rw [if_pos (by rfl)]
              unfold nfE15
              go_simp
              obtain ⟨V4, hV4⟩ : ∃ V, V = V3.alloc (.cells #[.string ⟨#[]⟩, .string ⟨#[]⟩, .string ⟨#[]⟩, .string ⟨#[]⟩, .int .i64 0] 23) := ⟨_, rfl⟩
              obtain ⟨bq, hbq⟩ : ∃ n, n = V3.heap.size := ⟨_, rfl⟩
              have bb : Below V3.heap.size V3 V4 := by rw [hV4]; exact (Below.refl _ _).alloc (Nat.le_refl _) _
              have M4 : MBlk V4 bq #[.string ⟨#[]⟩, .string ⟨#[]⟩, .string ⟨#[]⟩, .string ⟨#[]⟩, .int .i64 0] 23 := by rw [hV4, hbq]; exact heap_alloc_new _ _
              have Gq : W2.heap.size ≤ bq := by rw [hbq]; exact D3.size
              have SD4 := HSB.out _ _ bb SD3
              have D4 := D3.trans (bb.mono D3.size)
              simp only [← hV4, ← hbq]
              refine hK _ _ SD4 ?_
              clear hK K' hV4 hbq bb SD3 D3
              try simp only [Act.put, List.setIfInBounds_toArray, List.set_cons_zero, List.set_cons_succ]
              refine anyL_ready (rs := [11]) (by kernel_rfl) (by simp) ?_
              refine AllL.cons (o := nfE11) rfl (fun K' hK => ?_) AllL.nil
              rw [if_pos (by rfl)]
              unfold nfE11
              go_simp
              go_at_call 30
              refine (k4 _).mono ?_
              rintro e5 V5 ⟨rfl, bb⟩
              have SD5 := HSB.out _ _ bb SD4
              have D5 := D4.trans (bb.mono D4.size)
              have M5 := M4.more bb
              refine hK _ _ SD5 ?_
              clear hK K' bb SD4 D4 M4
              try simp only [Act.put, List.setIfInBounds_toArray, List.set_cons_zero, List.set_cons_succ]
              refine anyL_take (i := 14) (oi := { dst := some 34, op := Go.Op.build 23 #[(0, Go.Operand.tmp 22), (1, Go.Operand.tmp 25), (2, Go.Operand.tmp 28), (3, Go.Operand.tmp 31), (4, Go.Operand.tmp 33)], type := 23, pos := "ref.go:27", after := #[{ on := 2, ground := Go.Ground.data }, { on := 5, ground := Go.Ground.data }, { on := 8, ground := Go.Ground.data }, { on := 11, ground := Go.Ground.data }, { on := 13, ground := Go.Ground.data }], guard := none }) (v := ?_) rfl (by decide) (by kernel_rfl) (by kernel_rfl) (by kernel_rfl) (by kernel_rfl) (fun _ _ _ h => h) (Or.inl ⟨by rfl, ?_⟩) SD5 ?_
              rotate_left
              · intro wz hSz
                skip
                go_simp
                (try with_reducible rfl)
              try simp only [Act.put, List.setIfInBounds_toArray, List.set_cons_zero, List.set_cons_succ]
              refine anyL_ready (rs := [16]) (by kernel_rfl) (by simp) ?_
              refine AllL.cons (o := nfE16) rfl (fun K' hK => ?_) AllL.nil
              rw [if_pos (by rfl)]
              unfold nfE16
              have hM := M5
              have r0 := hM.cell 0
              have r1 := hM.cell 1
              have r2 := hM.cell 2
              have r3 := hM.cell 3
              have r4 := hM.cell 4
              simp only [List.getElem?_toArray, List.getElem?_cons_zero, List.getElem?_cons_succ] at r0 r1 r2 r3 r4
              have t0 := hM.fr 0
              have t1 := hM.fr 1
              have t2 := hM.fr 2
              have t3 := hM.fr 3
              have t4 := hM.fr 4
              go_simp
              obtain ⟨V6, hV6⟩ : ∃ V, V = (((((V5.setCell ⟨bq, 0, none⟩ (.string s1)).setCell ⟨bq, 1, none⟩ (.string s2)).setCell ⟨bq, 2, none⟩ (.string s3)).setCell ⟨bq, 3, none⟩ (.string s4)).setCell ⟨bq, 4, none⟩ (.int .i64 x.upd)) := ⟨_, rfl⟩
              have M6 : MBlk V6 bq #[.string s1, .string s2, .string s3, .string s4, .int .i64 x.upd] 23 := by rw [hV6]; exact nm_set5 M5 _ _ _ _ _
              have D6 : Below W2.heap.size W2 V6 := by rw [hV6]; exact nm_below5 D5 Gq _ _ _ _ _
              have SD6 := HSP.out _ D6
              simp only [← hV6]
              refine hK _ _ SD6 ?_
              clear hK K' hV6 r0 r1 r2 r3 r4 t0 t1 t2 t3 t4 hM M5 SD5 D5
              try simp only [Act.put, List.setIfInBounds_toArray, List.set_cons_zero, List.set_cons_succ]
              refine anyL_done (by kernel_rfl) ?_ _
              go_wp2
              go_meet
              exact ⟨bq, Gq, rfl, M6, SD6, D6⟩
          · rw [if_pos (by rfl)]
            unfold nfE15
            go_simp
            obtain ⟨V3, hV3⟩ : ∃ V, V = V2.alloc (.cells #[.string ⟨#[]⟩, .string ⟨#[]⟩, .string ⟨#[]⟩, .string ⟨#[]⟩, .int .i64 0] 23) := ⟨_, rfl⟩
            obtain ⟨bq, hbq⟩ : ∃ n, n = V2.heap.size := ⟨_, rfl⟩
            have bb : Below V2.heap.size V2 V3 := by rw [hV3]; exact (Below.refl _ _).alloc (Nat.le_refl _) _
            have M3 : MBlk V3 bq #[.string ⟨#[]⟩, .string ⟨#[]⟩, .string ⟨#[]⟩, .string ⟨#[]⟩, .int .i64 0] 23 := by rw [hV3, hbq]; exact heap_alloc_new _ _
            have Gq : W2.heap.size ≤ bq := by rw [hbq]; exact D2.size
            have SD3 := HSB.out _ _ bb SD2
            have D3 := D2.trans (bb.mono D2.size)
            simp only [← hV3, ← hbq]
            refine hK _ _ SD3 ?_
            clear hK K' hV3 hbq bb SD2 D2
            try simp only [Act.put, List.setIfInBounds_toArray, List.set_cons_zero, List.set_cons_succ]
            refine anyL_ready (rs := [8]) (by kernel_rfl) (by simp) ?_
            refine AllL.cons (o := nfE8) rfl (fun K' hK => ?_) AllL.nil
            rw [if_pos (by rfl)]
            unfold nfE8
            go_simp
            go_at_call 30
            refine (k3 _).mono ?_
            rintro e4 V4 ⟨rfl, bb⟩
            have SD4 := HSB.out _ _ bb SD3
            have D4 := D3.trans (bb.mono D3.size)
            have M4 := M3.more bb
            refine hK _ _ SD4 ?_
            clear hK K' bb SD3 D3 M3
            try simp only [Act.put, List.setIfInBounds_toArray, List.set_cons_zero, List.set_cons_succ]
            refine anyL_ready (rs := [11]) (by kernel_rfl) (by simp) ?_
            refine AllL.cons (o := nfE11) rfl (fun K' hK => ?_) AllL.nil
            rw [if_pos (by rfl)]
            unfold nfE11
            go_simp
            go_at_call 30
            refine (k4 _).mono ?_
            rintro e5 V5 ⟨rfl, bb⟩
            have SD5 := HSB.out _ _ bb SD4
            have D5 := D4.trans (bb.mono D4.size)
            have M5 := M4.more bb
            refine hK _ _ SD5 ?_
            clear hK K' bb SD4 D4 M4
            try simp only [Act.put, List.setIfInBounds_toArray, List.set_cons_zero, List.set_cons_succ]
            refine anyL_take (i := 14) (oi := { dst := some 34, op := Go.Op.build 23 #[(0, Go.Operand.tmp 22), (1, Go.Operand.tmp 25), (2, Go.Operand.tmp 28), (3, Go.Operand.tmp 31), (4, Go.Operand.tmp 33)], type := 23, pos := "ref.go:27", after := #[{ on := 2, ground := Go.Ground.data }, { on := 5, ground := Go.Ground.data }, { on := 8, ground := Go.Ground.data }, { on := 11, ground := Go.Ground.data }, { on := 13, ground := Go.Ground.data }], guard := none }) (v := ?_) rfl (by decide) (by kernel_rfl) (by kernel_rfl) (by kernel_rfl) (by kernel_rfl) (fun _ _ _ h => h) (Or.inl ⟨by rfl, ?_⟩) SD5 ?_
            rotate_left
            · intro wz hSz
              skip
              go_simp
              (try with_reducible rfl)
            try simp only [Act.put, List.setIfInBounds_toArray, List.set_cons_zero, List.set_cons_succ]
            refine anyL_ready (rs := [16]) (by kernel_rfl) (by simp) ?_
            refine AllL.cons (o := nfE16) rfl (fun K' hK => ?_) AllL.nil
            rw [if_pos (by rfl)]
            unfold nfE16
            have hM := M5
            have r0 := hM.cell 0
            have r1 := hM.cell 1
            have r2 := hM.cell 2
            have r3 := hM.cell 3
            have r4 := hM.cell 4
            simp only [List.getElem?_toArray, List.getElem?_cons_zero, List.getElem?_cons_succ] at r0 r1 r2 r3 r4
            have t0 := hM.fr 0
            have t1 := hM.fr 1
            have t2 := hM.fr 2
            have t3 := hM.fr 3
            have t4 := hM.fr 4
            go_simp
            obtain ⟨V6, hV6⟩ : ∃ V, V = (((((V5.setCell ⟨bq, 0, none⟩ (.string s1)).setCell ⟨bq, 1, none⟩ (.string s2)).setCell ⟨bq, 2, none⟩ (.string s3)).setCell ⟨bq, 3, none⟩ (.string s4)).setCell ⟨bq, 4, none⟩ (.int .i64 x.upd)) := ⟨_, rfl⟩
            have M6 : MBlk V6 bq #[.string s1, .string s2, .string s3, .string s4, .int .i64 x.upd] 23 := by rw [hV6]; exact nm_set5 M5 _ _ _ _ _
            have D6 : Below W2.heap.size W2 V6 := by rw [hV6]; exact nm_below5 D5 Gq _ _ _ _ _
            have SD6 := HSP.out _ D6
            simp only [← hV6]
            refine hK _ _ SD6 ?_
            clear hK K' hV6 r0 r1 r2 r3 r4 t0 t1 t2 t3 t4 hM M5 SD5 D5
            try simp only [Act.put, List.setIfInBounds_toArray, List.set_cons_zero, List.set_cons_succ]
            refine anyL_done (by kernel_rfl) ?_ _
            go_wp2
            go_meet
            exact ⟨bq, Gq, rfl, M6, SD6, D6⟩
        · rw [if_pos (by rfl)]
          unfold nfE15
          go_simp
          obtain ⟨V2, hV2⟩ : ∃ V, V = V1.alloc (.cells #[.string ⟨#[]⟩, .string ⟨#[]⟩, .string ⟨#[]⟩, .string ⟨#[]⟩, .int .i64 0] 23) := ⟨_, rfl⟩
          obtain ⟨bq, hbq⟩ : ∃ n, n = V1.heap.size := ⟨_, rfl⟩
          have bb : Below V1.heap.size V1 V2 := by rw [hV2]; exact (Below.refl _ _).alloc (Nat.le_refl _) _
          have M2 : MBlk V2 bq #[.string ⟨#[]⟩, .string ⟨#[]⟩, .string ⟨#[]⟩, .string ⟨#[]⟩, .int .i64 0] 23 := by rw [hV2, hbq]; exact heap_alloc_new _ _
          have Gq : W2.heap.size ≤ bq := by rw [hbq]; exact D1.size
          have SD2 := HSB.out _ _ bb SD1
          have D2 := D1.trans (bb.mono D1.size)
          simp only [← hV2, ← hbq]
          refine hK _ _ SD2 ?_
          clear hK K' hV2 hbq bb SD1 D1
          try simp only [Act.put, List.setIfInBounds_toArray, List.set_cons_zero, List.set_cons_succ]
          refine anyL_ready (rs := [5]) (by kernel_rfl) (by simp) ?_
          refine AllL.cons (o := nfE5) rfl (fun K' hK => ?_) AllL.nil
          rw [if_pos (by rfl)]
          unfold nfE5
          go_simp
          go_at_call 30
          refine (k2 _).mono ?_
          rintro e3 V3 ⟨rfl, bb⟩
          have SD3 := HSB.out _ _ bb SD2
          have D3 := D2.trans (bb.mono D2.size)
          have M3 := M2.more bb
          refine hK _ _ SD3 ?_
          clear hK K' bb SD2 D2 M2
          try simp only [Act.put, List.setIfInBounds_toArray, List.set_cons_zero, List.set_cons_succ]
          refine anyL_ready (rs := [8]) (by kernel_rfl) (by simp) ?_
          refine AllL.cons (o := nfE8) rfl (fun K' hK => ?_) AllL.nil
          rw [if_pos (by rfl)]
          unfold nfE8
          go_simp
          go_at_call 30
          refine (k3 _).mono ?_
          rintro e4 V4 ⟨rfl, bb⟩
          have SD4 := HSB.out _ _ bb SD3
          have D4 := D3.trans (bb.mono D3.size)
          have M4 := M3.more bb
          refine hK _ _ SD4 ?_
          clear hK K' bb SD3 D3 M3
          try simp only [Act.put, List.setIfInBounds_toArray, List.set_cons_zero, List.set_cons_succ]
          refine anyL_ready (rs := [11]) (by kernel_rfl) (by simp) ?_
          refine AllL.cons (o := nfE11) rfl (fun K' hK => ?_) AllL.nil
          rw [if_pos (by rfl)]
          unfold nfE11
          go_simp
          go_at_call 30
          refine (k4 _).mono ?_
          rintro e5 V5 ⟨rfl, bb⟩
          have SD5 := HSB.out _ _ bb SD4
          have D5 := D4.trans (bb.mono D4.size)
          have M5 := M4.more bb
          refine hK _ _ SD5 ?_
          clear hK K' bb SD4 D4 M4
          try simp only [Act.put, List.setIfInBounds_toArray, List.set_cons_zero, List.set_cons_succ]
          refine anyL_take (i := 14) (oi := { dst := some 34, op := Go.Op.build 23 #[(0, Go.Operand.tmp 22), (1, Go.Operand.tmp 25), (2, Go.Operand.tmp 28), (3, Go.Operand.tmp 31), (4, Go.Operand.tmp 33)], type := 23, pos := "ref.go:27", after := #[{ on := 2, ground := Go.Ground.data }, { on := 5, ground := Go.Ground.data }, { on := 8, ground := Go.Ground.data }, { on := 11, ground := Go.Ground.data }, { on := 13, ground := Go.Ground.data }], guard := none }) (v := ?_) rfl (by decide) (by kernel_rfl) (by kernel_rfl) (by kernel_rfl) (by kernel_rfl) (fun _ _ _ h => h) (Or.inl ⟨by rfl, ?_⟩) SD5 ?_
          rotate_left
          · intro wz hSz
            skip
            go_simp
            (try with_reducible rfl)
          try simp only [Act.put, List.setIfInBounds_toArray, List.set_cons_zero, List.set_cons_succ]
          refine anyL_ready (rs := [16]) (by kernel_rfl) (by simp) ?_
          refine AllL.cons (o := nfE16) rfl (fun K' hK => ?_) AllL.nil
          rw [if_pos (by rfl)]
          unfold nfE16
          have hM := M5
          have r0 := hM.cell 0
          have r1 := hM.cell 1
          have r2 := hM.cell 2
          have r3 := hM.cell 3
          have r4 := hM.cell 4
          simp only [List.getElem?_toArray, List.getElem?_cons_zero, List.getElem?_cons_succ] at r0 r1 r2 r3 r4
          have t0 := hM.fr 0
          have t1 := hM.fr 1
          have t2 := hM.fr 2
          have t3 := hM.fr 3
          have t4 := hM.fr 4
          go_simp
          obtain ⟨V6, hV6⟩ : ∃ V, V = (((((V5.setCell ⟨bq, 0, none⟩ (.string s1)).setCell ⟨bq, 1, none⟩ (.string s2)).setCell ⟨bq, 2, none⟩ (.string s3)).setCell ⟨bq, 3, none⟩ (.string s4)).setCell ⟨bq, 4, none⟩ (.int .i64 x.upd)) := ⟨_, rfl⟩
          have M6 : MBlk V6 bq #[.string s1, .string s2, .string s3, .string s4, .int .i64 x.upd] 23 := by rw [hV6]; exact nm_set5 M5 _ _ _ _ _
          have D6 : Below W2.heap.size W2 V6 := by rw [hV6]; exact nm_below5 D5 Gq _ _ _ _ _
          have SD6 := HSP.out _ D6
          simp only [← hV6]
          refine hK _ _ SD6 ?_
          clear hK K' hV6 r0 r1 r2 r3 r4 t0 t1 t2 t3 t4 hM M5 SD5 D5
          try simp only [Act.put, List.setIfInBounds_toArray, List.set_cons_zero, List.set_cons_succ]
          refine anyL_done (by kernel_rfl) ?_ _
          go_wp2
          go_meet
          exact ⟨bq, Gq, rfl, M6, SD6, D6⟩
      · rw [if_pos (by rfl)]
        unfold nfE15
        go_simp
        obtain ⟨V1, hV1⟩ : ∃ V, V = Wd.alloc (.cells #[.string ⟨#[]⟩, .string ⟨#[]⟩, .string ⟨#[]⟩, .string ⟨#[]⟩, .int .i64 0] 23) := ⟨_, rfl⟩
        obtain ⟨bq, hbq⟩ : ∃ n, n = Wd.heap.size := ⟨_, rfl⟩
        have bb : Below Wd.heap.size Wd V1 := by rw [hV1]; exact (Below.refl _ _).alloc (Nat.le_refl _) _
        have M1 : MBlk V1 bq #[.string ⟨#[]⟩, .string ⟨#[]⟩, .string ⟨#[]⟩, .string ⟨#[]⟩, .int .i64 0] 23 := by rw [hV1, hbq]; exact heap_alloc_new _ _
        have Gq : W2.heap.size ≤ bq := by rw [hbq]; exact D0.size
        have SD1 := HSB.out _ _ bb SD0
        have D1 := D0.trans (bb.mono D0.size)
        simp only [← hV1, ← hbq]
        refine hK _ _ SD1 ?_
        clear hK K' hV1 hbq bb SD0 D0
        try simp only [Act.put, List.setIfInBounds_toArray, List.set_cons_zero, List.set_cons_succ]
        refine anyL_ready (rs := [2]) (by kernel_rfl) (by simp) ?_
        refine AllL.cons (o := nfE2) rfl (fun K' hK => ?_) AllL.nil
        rw [if_pos (by rfl)]
        unfold nfE2
        go_simp
        go_at_call 30
        refine (k1 _).mono ?_
        rintro e2 V2 ⟨rfl, bb⟩
        have SD2 := HSB.out _ _ bb SD1
        have D2 := D1.trans (bb.mono D1.size)
        have M2 := M1.more bb
        refine hK _ _ SD2 ?_
        clear hK K' bb SD1 D1 M1
        try simp only [Act.put, List.setIfInBounds_toArray, List.set_cons_zero, List.set_cons_succ]
        refine anyL_ready (rs := [5]) (by kernel_rfl) (by simp) ?_
        refine AllL.cons (o := nfE5) rfl (fun K' hK => ?_) AllL.nil
        rw [if_pos (by rfl)]
        unfold nfE5
        go_simp
        go_at_call 30
        refine (k2 _).mono ?_
        rintro e3 V3 ⟨rfl, bb⟩
        have SD3 := HSB.out _ _ bb SD2
        have D3 := D2.trans (bb.mono D2.size)
        have M3 := M2.more bb
        refine hK _ _ SD3 ?_
        clear hK K' bb SD2 D2 M2
        try simp only [Act.put, List.setIfInBounds_toArray, List.set_cons_zero, List.set_cons_succ]
        refine anyL_ready (rs := [8]) (by kernel_rfl) (by simp) ?_
        refine AllL.cons (o := nfE8) rfl (fun K' hK => ?_) AllL.nil
        rw [if_pos (by rfl)]
        unfold nfE8
        go_simp
        go_at_call 30
        refine (k3 _).mono ?_
        rintro e4 V4 ⟨rfl, bb⟩
        have SD4 := HSB.out _ _ bb SD3
        have D4 := D3.trans (bb.mono D3.size)
        have M4 := M3.more bb
        refine hK _ _ SD4 ?_
        clear hK K' bb SD3 D3 M3
        try simp only [Act.put, List.setIfInBounds_toArray, List.set_cons_zero, List.set_cons_succ]
        refine anyL_ready (rs := [11]) (by kernel_rfl) (by simp) ?_
        refine AllL.cons (o := nfE11) rfl (fun K' hK => ?_) AllL.nil
        rw [if_pos (by rfl)]
        unfold nfE11
        go_simp
        go_at_call 30
        refine (k4 _).mono ?_
        rintro e5 V5 ⟨rfl, bb⟩
        have SD5 := HSB.out _ _ bb SD4
        have D5 := D4.trans (bb.mono D4.size)
        have M5 := M4.more bb
        refine hK _ _ SD5 ?_
        clear hK K' bb SD4 D4 M4
        try simp only [Act.put, List.setIfInBounds_toArray, List.set_cons_zero, List.set_cons_succ]
        refine anyL_take (i := 14) (oi := { dst := some 34, op := Go.Op.build 23 #[(0, Go.Operand.tmp 22), (1, Go.Operand.tmp 25), (2, Go.Operand.tmp 28), (3, Go.Operand.tmp 31), (4, Go.Operand.tmp 33)], type := 23, pos := "ref.go:27", after := #[{ on := 2, ground := Go.Ground.data }, { on := 5, ground := Go.Ground.data }, { on := 8, ground := Go.Ground.data }, { on := 11, ground := Go.Ground.data }, { on := 13, ground := Go.Ground.data }], guard := none }) (v := ?_) rfl (by decide) (by kernel_rfl) (by kernel_rfl) (by kernel_rfl) (by kernel_rfl) (fun _ _ _ h => h) (Or.inl ⟨by rfl, ?_⟩) SD5 ?_
        rotate_left
        · intro wz hSz
          skip
          go_simp
          (try with_reducible rfl)
        try simp only [Act.put, List.setIfInBounds_toArray, List.set_cons_zero, List.set_cons_succ]
        refine anyL_ready (rs := [16]) (by kernel_rfl) (by simp) ?_
        refine AllL.cons (o := nfE16) rfl (fun K' hK => ?_) AllL.nil
        rw [if_pos (by rfl)]
        unfold nfE16
        have hM := M5
        have r0 := hM.cell 0
        have r1 := hM.cell 1
        have r2 := hM.cell 2
        have r3 := hM.cell 3
        have r4 := hM.cell 4
        simp only [List.getElem?_toArray, List.getElem?_cons_zero, List.getElem?_cons_succ] at r0 r1 r2 r3 r4
        have t0 := hM.fr 0
        have t1 := hM.fr 1
        have t2 := hM.fr 2
        have t3 := hM.fr 3
        have t4 := hM.fr 4
        go_simp
        obtain ⟨V6, hV6⟩ : ∃ V, V = (((((V5.setCell ⟨bq, 0, none⟩ (.string s1)).setCell ⟨bq, 1, none⟩ (.string s2)).setCell ⟨bq, 2, none⟩ (.string s3)).setCell ⟨bq, 3, none⟩ (.string s4)).setCell ⟨bq, 4, none⟩ (.int .i64 x.upd)) := ⟨_, rfl⟩
        have M6 : MBlk V6 bq #[.string s1, .string s2, .string s3, .string s4, .int .i64 x.upd] 23 := by rw [hV6]; exact nm_set5 M5 _ _ _ _ _
        have D6 : Below W2.heap.size W2 V6 := by rw [hV6]; exact nm_below5 D5 Gq _ _ _ _ _
        have SD6 := HSP.out _ D6
        simp only [← hV6]
        refine hK _ _ SD6 ?_
        clear hK K' hV6 r0 r1 r2 r3 r4 t0 t1 t2 t3 t4 hM M5 SD5 D5
        try simp only [Act.put, List.setIfInBounds_toArray, List.set_cons_zero, List.set_cons_succ]
        refine anyL_done (by kernel_rfl) ?_ _
        go_wp2
        go_meet
        exact ⟨bq, Gq, rfl, M6, SD6, D6⟩
    case rest =>
      obtain ⟨b, hGb, rfl, hM, hS, hBc⟩ := hcut
      clear k1 k2 k3 k4 HSB SD HD HSP
      obtain ⟨e0, e1, e2, e3, e4⟩ := hS
      have m0 := hM.cell 0
      have m1 := hM.cell 1
      have m2 := hM.cell 2
      have m3 := hM.cell 3
      have m4 := hM.cell 4
      simp only [List.getElem?_toArray, List.getElem?_cons_zero, List.getElem?_cons_succ] at m0 m1 m2 m3 m4
      have hM2 := HR.out.more hBc
      have r0 := hM2.cell 0
      have r1 := hM2.cell 1
      have r2 := hM2.cell 2
      have r3 := hM2.cell 3
      have r4 := hM2.cell 4
      simp only [List.getElem?_toArray, List.getElem?_cons_zero, List.getElem?_cons_succ] at r0 r1 r2 r3 r4
      have t0 := hM2.fr 0
      have t1 := hM2.fr 1
      have t2 := hM2.fr 2
      have t3 := hM2.fr 3
      have t4 := hM2.fr 4
      have HF0 := Lib.hid (HF.out wc entZ hBc)
      have HF1 := Lib.hid (HF.out wc ⟨s1, s2, s3, s4, x.upd⟩ hBc)
      obtain ⟨Q1, Q2, Q3⟩ := HQ
      clear HF HR HB hBc hM hM2 HNN hGb
      by_cases hs : s1.size = 0
      · obtain ⟨hRv, hEv⟩ := Q1 hs
        obtain ⟨y0, y1, y2⟩ := mstr_none hs
        subst hRv hEv
        clear hs HF1 Q1 Q2 Q3
        go_wp2
        exact bodyPost_ret (v := .tuple #[.agg #[.string ⟨#[]⟩, .string ⟨#[]⟩, .string ⟨#[]⟩, .string ⟨#[]⟩, .int .i64 0], .int .i64 19]) (by simp [results, Tryz.results12, go_sem, mset_same, r0, r1, r2, r3, r4]) rfl ⟨rfl, HF0.out.2⟩
      · obtain ⟨y0, y1, y2⟩ := mstr_some hs
        by_cases hT : inTB x.upd = true
        · obtain ⟨hRv, hEv⟩ := Q2 hs hT
          unfold inTB at hT
          obtain ⟨u1, u2⟩ := of_decide_eq_true hT
          have u3 : ¬ x.upd < -62135596800 := by omega
          have u4 : ¬ 253402300799 < x.upd := by omega
          subst hRv hEv
          clear hs hT HF0 Q1 Q2 Q3
          go_wp2
          exact bodyPost_ret (v := .tuple #[.agg #[.string s1, .string s2, .string s3, .string s4, .int .i64 x.upd], .int .i64 0]) (by simp [results, Tryz.results12, go_sem, mset_same, r0, r1, r2, r3, r4]) rfl ⟨rfl, HF1.out.2⟩
        · obtain ⟨hRv, hEv⟩ := Q3 hs hT
          have hU : x.upd < -62135596800 ∨ 253402300799 < x.upd := by
            unfold inTB at hT
            rw [decide_eq_true_eq] at hT
            omega
          subst hRv hEv
          clear hs hT HF1 Q1 Q2 Q3
          rcases hU with u3 | u3
          · go_wp2
            exact bodyPost_ret (v := .tuple #[.agg #[.string ⟨#[]⟩, .string ⟨#[]⟩, .string ⟨#[]⟩, .string ⟨#[]⟩, .int .i64 0], .int .i64 3]) (by simp [results, Tryz.results12, go_sem, mset_same, r0, r1, r2, r3, r4]) rfl ⟨rfl, HF0.out.2⟩
          · have u4 : ¬ x.upd < -62135596800 := by omega
            go_wp2
            exact bodyPost_ret (v := .tuple #[.agg #[.string ⟨#[]⟩, .string ⟨#[]⟩, .string ⟨#[]⟩, .string ⟨#[]⟩, .int .i64 0], .int .i64 3]) (by simp [results, Tryz.results12, go_sem, mset_same, r0, r1, r2, r3, r4]) rfl ⟨rfl, HF0.out.2⟩
  · have hn0 : ¬ n = 0 := by have := HNN.out; omega
    have hRv := HRX.out
    rw [if_neg hn0] at hRv
    have hEv := HEX.out
    rw [if_neg (fun h => hn0 h.1)] at hEv
    subst hRv hEv
    clear HRX HEX k1 k2 k3 k4 SD
    have hM := HR.out.more HD.out
    have r0 := hM.cell 0
    have r1 := hM.cell 1
    have r2 := hM.cell 2
    have r3 := hM.cell 3
    have r4 := hM.cell 4
    simp only [List.getElem?_toArray, List.getElem?_cons_zero, List.getElem?_cons_succ] at r0 r1 r2 r3 r4
    have t0 := hM.fr 0
    have t1 := hM.fr 1
    have t2 := hM.fr 2
    have t3 := hM.fr 3
    have t4 := hM.fr 4
    have HFZ := Lib.hid (HF.out w4 entZ HD.out)
    clear HF HR HB HD hM
    go_wp2
    exact bodyPost_ret (v := .tuple #[.agg #[.string ⟨#[]⟩, .string ⟨#[]⟩, .string ⟨#[]⟩, .string ⟨#[]⟩, .int .i64 0], .int .i64 N]) (by simp [results, Tryz.results12, go_sem, mset_same, r0, r1, r2, r3, r4]) rfl ⟨by rw [HNN.out]; rfl, HFZ.out.2⟩
end Go.Proofs.YtbfalppeifkjdaaGreatDoor
end
