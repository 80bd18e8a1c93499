/- Packed from the texts NnA NmH NnB NnC. -/
import Derived.Test.YtbfalppeifkjdaaGreatDoorXNmF
import Derived.Test.YtbfalppeifkjdaaGreatDoorXkB
import Derived.Test.YtbfalppeifkjdaaGreatDoorXl2
import Derived.Test.YtbfalppeifkjdaaGreatDoorXl4
import Derived.Test.YtbfalppeifkjdaaGreatDoorXm3
import Derived.Deep.AppendLies
section
namespace Go.Proofs.YtbfalppeifkjdaaGreatDoor
open Go.RowKit
set_option maxRecDepth 100000 in
set_option maxHeartbeats 8000000 in
theorem nz_checkStrings (l : List ByteArray) (p : Option Addr) (c : Nat) (w : World) (hl : NamAt w p l) (hs : ∀ s ∈ l, s.size ≤ 70368744177664) (hn : l.length ≤ 100000000) (hT : HasUtf8 w) :
    Calls Tryz.prog 26 #[.slice p l.length c] w fun e w' => e = .returned (.int .i64 (chkLs l)) ∧ Below w.heap.size w w' := by
  obtain ⟨rl, hrl⟩ : ∃ rl, chkLs l = rl := ⟨_, rfl⟩
  rw [hrl]
  have HR := Lib.hid (show rl = chkLs (l.drop 0) by rw [← hrl]; rfl)
  have HL := Lib.hid hl
  have HS := Lib.hid hs
  have HT := Lib.hid hT
  have hnz : (l.length : Int) ≤ 100000000 := by omega
  clear hl hs hrl hT
  go_enter Tryz.func26, Tryz.ntmps26
  go_wp2
  go_loopw [9] (fun q wr => ∃ i : Nat, i ≤ l.length ∧ q = .int .i64 (i : Int) ∧ rl = chkLs (l.drop i) ∧ Below w.heap.size w wr) (fun q _ => l.length - (RowKit.intOf q).toNat)
  case atStart => exact ⟨0, Nat.zero_le _, rfl, HR.out, Below.refl _ _⟩
  case round =>
    clear HR
    obtain ⟨i, hi, rfl, hR, hb⟩ := hrel
    have hz := hb.size
    by_cases hlt : i < l.length
    · have hiz : (i : Int) < (l.length : Int) := by omega
      obtain ⟨a, rfl, ca⟩ := HL.out.below hb i hlt
      rw [List.drop_eq_getElem_cons hlt, chkLs] at hR
      obtain ⟨x, hx⟩ : ∃ x, l[i] = x := ⟨_, rfl⟩
      have hmem : x ∈ l := by rw [← hx]; exact List.getElem_mem _
      rw [hx] at ca hR
      have cQ := mt_Check x wr (by have := HS.out x hmem; unfold maxLen; omega) (mu_below HT.out hb)
      obtain ⟨aa, haa⟩ : ∃ aa, a.add i = aa := ⟨_, rfl⟩
      rw [haa] at ca
      have HB := Lib.hid hb
      clear hmem hx hb
      generalize (chk x).1 = c1 at *
      rcases hv : (chk x).2 with _ | n
      · rw [hv, if_pos rfl] at hR
        rw [hv] at cQ
        clear hv
        have HRR := Lib.hid hR
        clear hR
        go_wp2_with fail
        refine cQ.mono ?_
        rintro e w2 ⟨rfl, b2⟩
        go_wp2
        go_roundw
        case rel => exact ⟨i + 1, by omega, rfl, HRR.out, HB.out.trans (b2.mono hz)⟩
        case measure => simp [RowKit.intOf]; omega
      · rw [hv, if_neg (by omega)] at hR
        rw [hv] at cQ
        clear hv
        subst hR
        obtain ⟨N, hN⟩ : ∃ N : Int, N = ((n + 1 : Nat) : Int) := ⟨_, rfl⟩
        have hne : ¬ N = 0 := by omega
        rw [← hN] at cQ
        have HN := Lib.hid hN
        clear hN
        go_wp2_with fail
        refine cQ.mono ?_
        rintro e w2 ⟨rfl, b2⟩
        go_wp2
        go_ret
        exact ⟨mretI HN.out, HB.out.trans (b2.mono hz)⟩
    · have hiz : ¬ (i : Int) < (l.length : Int) := by omega
      rw [List.drop_eq_nil_of_le (by omega), chkLs] at hR
      subst hR
      have HB := Lib.hid hb
      clear hb
      go_wp2_with fail
      go_ret
      exact ⟨rfl, HB.out⟩
theorem nz_inRange (t : Int) (w : World) : Calls Tryz.prog 28 #[.int .i64 t] w fun e w' => e = .returned (.bool (inTB t)) ∧ w = w' := by
  unfold inTB
  by_cases h1 : -62135596800 ≤ t
  · by_cases h2 : t ≤ 253402300799
    · rw [decide_eq_true (show -62135596800 ≤ t ∧ t ≤ 253402300799 from ⟨h1, h2⟩)]
      go_enter Tryz.func28, Tryz.ntmps28
      go_wp2
      go_ret
      exact ⟨rfl, rfl⟩
    · rw [decide_eq_false (show ¬ (-62135596800 ≤ t ∧ t ≤ 253402300799) from fun h => h2 h.2)]
      go_enter Tryz.func28, Tryz.ntmps28
      go_wp2
      go_ret
      exact ⟨rfl, rfl⟩
  · rw [decide_eq_false (show ¬ (-62135596800 ≤ t ∧ t ≤ 253402300799) from fun h => h1 h.1)]
    go_enter Tryz.func28, Tryz.ntmps28
    go_wp2
    go_ret
    exact ⟨rfl, rfl⟩
theorem nz_set4 {w : World} {b : Nat} {T : TypeId} {u0 u1 u2 u3 u4 : Value} (h : MBlk w b #[u0, u1, u2, u3, u4] T) (v0 v1 v2 v3 : Value) : MBlk ((((w.setCell ⟨b, 0, none⟩ v0).setCell ⟨b, 1, none⟩ v1).setCell ⟨b, 2, none⟩ v2).setCell ⟨b, 3, none⟩ v3) b #[v0, v1, v2, v3, u4] T := by
  have h1 : MBlk (w.setCell ⟨b, 0, none⟩ v0) b #[v0, u1, u2, u3, u4] T := heap_setCell_same _ b 0 _ _ v0 h
  have h2 : MBlk ((w.setCell ⟨b, 0, none⟩ v0).setCell ⟨b, 1, none⟩ v1) b #[v0, v1, u2, u3, u4] T := heap_setCell_same _ b 1 _ _ v1 h1
  have h3 : MBlk (((w.setCell ⟨b, 0, none⟩ v0).setCell ⟨b, 1, none⟩ v1).setCell ⟨b, 2, none⟩ v2) b #[v0, v1, v2, u3, u4] T := heap_setCell_same _ b 2 _ _ v2 h2
  exact heap_setCell_same _ b 3 _ _ v3 h3
theorem nz_far4 {w : World} {b c : Nat} {T : TypeId} {cs : Array Value} (h : MBlk w c cs T) (hne : c ≠ b) (v0 v1 v2 v3 : Value) : MBlk ((((w.setCell ⟨b, 0, none⟩ v0).setCell ⟨b, 1, none⟩ v1).setCell ⟨b, 2, none⟩ v2).setCell ⟨b, 3, none⟩ v3) c cs T := by
  show ((((w.setCell ⟨b, 0, none⟩ v0).setCell ⟨b, 1, none⟩ v1).setCell ⟨b, 2, none⟩ v2).setCell ⟨b, 3, none⟩ v3).heap[c]? = _
  rw [Below.heap_setCell _ _ _ _ hne, Below.heap_setCell _ _ _ _ hne, Below.heap_setCell _ _ _ _ hne, Below.heap_setCell _ _ _ _ hne]
  exact h
theorem nz_below4 {B : Nat} {v x : World} {s : Nat} (h : Below B v x) (h2 : B ≤ s) (v0 v1 v2 v3 : Value) : Below B v ((((x.setCell ⟨s, 0, none⟩ v0).setCell ⟨s, 1, none⟩ v1).setCell ⟨s, 2, none⟩ v2).setCell ⟨s, 3, none⟩ v3) :=
  ((((h.setCell (p := ⟨s, 0, none⟩) h2 v0).setCell (p := ⟨s, 1, none⟩) h2 v1).setCell (p := ⟨s, 2, none⟩) h2 v2).setCell (p := ⟨s, 3, none⟩) h2 v3)
set_option maxRecDepth 100000 in
set_option maxHeartbeats 16000000 in
theorem nz_Entry (x : EntD) (w : World) (h1 : x.id.size ≤ 1000000000) (h2 : x.title.size ≤ 1000000000) (h3 : x.link.size ≤ 1000000000) (h4 : x.content.size ≤ 1000000000) (hT : HasUtf8 w) :
    Calls Tryz.prog 11 #[EntV x] w fun e w' => e = .returned (.tuple #[EntV (nrmE x), .int .i64 (entX x)]) ∧ Below w.heap.size w w' := by
  have k1 := fun wx => text_Collapse x.id wx (by omega)
  have k2 := fun wx => text_Collapse x.title wx (by omega)
  have k3 := fun wx => text_Collapse x.link wx (by omega)
  have k4 := fun wx => text_Collapse x.content wx (by omega)
  obtain ⟨W2, hW2⟩ : ∃ W2, W2 = (w.alloc (.cells #[.string x.id, .string x.title, .string x.link, .string x.content, .int .i64 x.upd] 23)).alloc (.cells #[.string ⟨#[]⟩, .string ⟨#[]⟩, .string ⟨#[]⟩, .string ⟨#[]⟩, .int .i64 0] 23) := ⟨_, rfl⟩
  have hB : Below w.heap.size w W2 := by rw [hW2]; exact ((Below.refl _ _).alloc (Nat.le_refl _) _).alloc (by simp) _
  have hX : EBox W2 w.heap.size x := by rw [hW2]; exact (EBox.new w x).below ((Below.refl _ _).alloc (Nat.le_refl _) _)
  have hR : MBlk W2 (w.heap.size + 1) #[.string ⟨#[]⟩, .string ⟨#[]⟩, .string ⟨#[]⟩, .string ⟨#[]⟩, .int .i64 0] 23 := by
    have := heap_alloc_new (w.alloc (.cells #[.string x.id, .string x.title, .string x.link, .string x.content, .int .i64 x.upd] 23)) (.cells #[.string ⟨#[]⟩, .string ⟨#[]⟩, .string ⟨#[]⟩, .string ⟨#[]⟩, .int .i64 0] 23)
    rw [World.size_alloc] at this
    rw [hW2]
    exact this
  obtain ⟨W3, hW3⟩ : ∃ W3, W3 = W2.alloc (.cells #[.string x.id, .string x.title, .string x.link, .string x.content] 9) := ⟨_, rfl⟩
  have b3 : Below W2.heap.size W2 W3 := by rw [hW3]; exact (Below.refl _ _).alloc (Nat.le_refl _) _
  have cC : Calls Tryz.prog 26 #[.slice (some ⟨W2.heap.size, 0, none⟩) 4 4] W3 fun e w' => e = .returned (.int .i64 (chkLs [x.id, x.title, x.link, x.content])) ∧ Below W3.heap.size W3 w' := by
    refine nz_checkStrings [x.id, x.title, x.link, x.content] (some ⟨W2.heap.size, 0, none⟩) 4 W3 (by rw [hW3]; exact nam_new4 _ _ _ _ _) (fun s hs => ?_) (by show 4 ≤ _; omega) (mu_below hT (by rw [hW3]; exact hB.trans (((Below.refl _ _).alloc (Nat.le_refl _) _).mono hB.size)))
    simp only [List.mem_cons, List.not_mem_nil, or_false] at hs
    rcases hs with rfl | rfl | rfl | rfl <;> omega
  have HX := Lib.hid hX
  have hMX : MBlk W2 w.heap.size #[.string x.id, .string x.title, .string x.link, .string x.content, .int .i64 x.upd] 23 := by
    rw [hW2]
    exact MBlk.more (show MBlk (w.alloc _) w.heap.size _ _ from heap_alloc_new w _) ((Below.refl _ _).alloc (Nat.le_refl _) _)
  have HMX := Lib.hid hMX
  clear hMX
  have HB := Lib.hid hB
  have HR := Lib.hid hR
  have HB3 := Lib.hid b3
  clear h1 h2 h3 h4 hB hR b3
  have HSP := Lib.hid (fun (u : World) (hb : Below W2.heap.size W2 u) => (show u.cell? ⟨w.heap.size, 0, none⟩ = some (.string x.id) ∧ u.cell? ⟨w.heap.size, 1, none⟩ = some (.string x.title) ∧ u.cell? ⟨w.heap.size, 2, none⟩ = some (.string x.link) ∧ u.cell? ⟨w.heap.size, 3, none⟩ = some (.string x.content) ∧ u.cell? ⟨w.heap.size, 4, none⟩ = some (.int .i64 x.upd) from ⟨mcell hb HX.out.1, mcell hb HX.out.2.1, mcell hb HX.out.2.2.1, mcell hb HX.out.2.2.2.1, mcell hb HX.out.2.2.2.2⟩))
  obtain ⟨e0, e1, e2, e3, e4⟩ := hX
  have hfin : ∀ (wx : World) (z : EntD), Below W2.heap.size W2 wx → MBlk (((((wx.setCell ⟨w.heap.size + 1, 0, none⟩ (.string z.id)).setCell ⟨w.heap.size + 1, 1, none⟩ (.string z.title)).setCell ⟨w.heap.size + 1, 2, none⟩ (.string z.link)).setCell ⟨w.heap.size + 1, 3, none⟩ (.string z.content)).setCell ⟨w.heap.size + 1, 4, none⟩ (.int .i64 z.upd)) (w.heap.size + 1) #[.string z.id, .string z.title, .string z.link, .string z.content, .int .i64 z.upd] 23 ∧ Below w.heap.size w (((((wx.setCell ⟨w.heap.size + 1, 0, none⟩ (.string z.id)).setCell ⟨w.heap.size + 1, 1, none⟩ (.string z.title)).setCell ⟨w.heap.size + 1, 2, none⟩ (.string z.link)).setCell ⟨w.heap.size + 1, 3, none⟩ (.string z.content)).setCell ⟨w.heap.size + 1, 4, none⟩ (.int .i64 z.upd)) := fun wx z hb =>
    ⟨nm_set5 (HR.out.more hb) _ _ _ _ _, nm_below5 (HB.out.trans (hb.mono HB.out.size)) (by omega) _ _ _ _ _⟩
  have HF := Lib.hid hfin
  clear hfin
  obtain ⟨n, hn⟩ : ∃ n, chkLs [x.id, x.title, x.link, x.content] = n := ⟨_, rfl⟩
  rw [hn] at cC
  obtain ⟨N, hN⟩ : ∃ N : Int, N = (n : Int) := ⟨_, rfl⟩
  rw [← hN] at cC
  obtain ⟨s1, hs1⟩ : ∃ s, s = ofBytes (collapse x.id.data.toList) := ⟨_, rfl⟩
  obtain ⟨s2, hs2⟩ : ∃ s, s = ofBytes (collapse x.title.data.toList) := ⟨_, rfl⟩
  obtain ⟨s3, hs3⟩ : ∃ s, s = ofBytes (collapse x.link.data.toList) := ⟨_, rfl⟩
  obtain ⟨s4, hs4⟩ : ∃ s, s = ofBytes (collapse x.content.data.toList) := ⟨_, rfl⟩
  rw [← hs1] at k1
  rw [← hs2] at k2
  rw [← hs3] at k3
  rw [← hs4] at k4
  have hval : entN x = ⟨s1, s2, s3, s4, x.upd⟩ := by rw [hs1, hs2, hs3, hs4]; rfl
  have hid1 : colB x.id = s1 := hs1.symm
  have hE : nrmE x = if n = 0 ∧ s1.size ≠ 0 ∧ inTB x.upd = true then ⟨s1, s2, s3, s4, x.upd⟩ else entZ := by
    unfold nrmE entX
    rw [hn, hid1, hval]
    by_cases a : n = 0
    · rw [if_pos a]
      by_cases b : s1.size = 0
      · rw [if_pos b, if_neg (by decide), if_neg (fun h => h.2.1 b)]
      · rw [if_neg b]
        by_cases c : inTB x.upd = true
        · rw [if_pos c, if_pos rfl, if_pos ⟨a, b, c⟩]
        · rw [if_neg c, if_neg (by decide), if_neg (fun h => c h.2.2)]
    · rw [if_neg a, if_neg a, if_neg (fun h => a h.1)]
  have hX2 : entX x = if n = 0 then (if s1.size = 0 then 19 else if inTB x.upd = true then 0 else 3) else n := by
    unfold entX
    rw [hn, hid1]
  obtain ⟨R, hRx⟩ : ∃ R, entX x = R := ⟨_, rfl⟩
  obtain ⟨E, hEx⟩ : ∃ E, nrmE x = E := ⟨_, rfl⟩
  rw [hRx, hEx]
  have HRX := Lib.hid (hRx.symm.trans hX2)
  have HEX := Lib.hid (hEx.symm.trans hE)
  have HNN := Lib.hid hN
  clear hRx hEx hE hX2 hN hn hval hid1 hs1 hs2 hs3 hs4
  unfold EntV
  go_enter Tryz.func11, Tryz.ntmps11
  go_upto_region 1 with fail
  simp only [← hW2]
  clear hW2
  go_wp2_with fail
  simp only [← hW3]
  clear hW3
  refine cC.mono ?_
  rintro e w4 ⟨rfl, b4⟩
  have B4 : Below W2.heap.size W2 w4 := HB3.out.trans (b4.mono HB3.out.size)
  have SD : w4.cell? ⟨w.heap.size, 0, none⟩ = some (.string x.id) ∧ w4.cell? ⟨w.heap.size, 1, none⟩ = some (.string x.title) ∧ w4.cell? ⟨w.heap.size, 2, none⟩ = some (.string x.link) ∧ w4.cell? ⟨w.heap.size, 3, none⟩ = some (.string x.content) ∧ w4.cell? ⟨w.heap.size, 4, none⟩ = some (.int .i64 x.upd) := ⟨mcell B4 e0, mcell B4 e1, mcell B4 e2, mcell B4 e3, mcell B4 e4⟩
  have HD := Lib.hid B4
  clear b4 HB3 B4 cC e0 e1 e2 e3 e4 HX
  have hBn : w.heap.size + 2 ≤ W2.heap.size := by have := HR.out.lt; omega
  by_cases hz : N = 0
  · subst hz
    have hn0 : n = 0 := by have := HNN.out; omega
    subst hn0
    have HQ : NfQ s1 s2 s3 s4 x.upd R E := by
      have hRv := HRX.out
      have hEv := HEX.out
      rw [if_pos rfl] at hRv
      refine ⟨fun a => ⟨by rw [hRv, if_pos a], by rw [hEv, if_neg (fun h => h.2.1 a)]⟩, fun a b => ⟨by rw [hRv, if_neg a, if_pos b], by rw [hEv, if_pos ⟨rfl, a, b⟩]⟩, fun a b => ⟨by rw [hRv, if_neg a, if_neg b], by rw [hEv, if_neg (fun h => b h.2.2)]⟩⟩
    clear HRX HEX
    have HSB := Lib.hid (fun (u1 u2 : World) (hb : Below u1.heap.size u1 u2) (hss : u1.cell? ⟨w.heap.size, 0, none⟩ = some (.string x.id) ∧ u1.cell? ⟨w.heap.size, 1, none⟩ = some (.string x.title) ∧ u1.cell? ⟨w.heap.size, 2, none⟩ = some (.string x.link) ∧ u1.cell? ⟨w.heap.size, 3, none⟩ = some (.string x.content) ∧ u1.cell? ⟨w.heap.size, 4, none⟩ = some (.int .i64 x.upd)) => (show u2.cell? ⟨w.heap.size, 0, none⟩ = some (.string x.id) ∧ u2.cell? ⟨w.heap.size, 1, none⟩ = some (.string x.title) ∧ u2.cell? ⟨w.heap.size, 2, none⟩ = some (.string x.link) ∧ u2.cell? ⟨w.heap.size, 3, none⟩ = some (.string x.content) ∧ u2.cell? ⟨w.heap.size, 4, none⟩ = some (.int .i64 x.upd) from ⟨mcell hb hss.1, mcell hb hss.2.1, mcell hb hss.2.2.1, mcell hb hss.2.2.2.1, mcell hb hss.2.2.2.2⟩))
    go_upto_region 4 with fail
    go_wp2
    have SD0 := HSB.out _ _ ((Below.refl _ _).drew) SD
    clear SD
    replace HD := Lib.hid (HD.out.trans (((Below.refl w4.heap.size w4).drew).mono HD.out.size))
    refine wp_region_late (S := fun w' => w'.cell? ⟨w.heap.size, 0, none⟩ = some (.string x.id) ∧ w'.cell? ⟨w.heap.size, 1, none⟩ = some (.string x.title) ∧ w'.cell? ⟨w.heap.size, 2, none⟩ = some (.string x.link) ∧ w'.cell? ⟨w.heap.size, 3, none⟩ = some (.string x.content) ∧ w'.cell? ⟨w.heap.size, 4, none⟩ = some (.int .i64 x.upd)) (D := [13, 14, 15, 16, 17, 18, 19]) (by kernel_rfl) ?_
    refine anyL_take (i := 0) (oi := { dst := some 19, op := Go.Op.fieldAddr 23 (Go.Operand.tmp 1) 0, type := 0, pos := "normalize.go:16", after := #[], guard := none }) (v := ?_) rfl (by decide) (by kernel_rfl) (by kernel_rfl) (by kernel_rfl) (by kernel_rfl) (fun _ _ _ h => h) (Or.inl ⟨by rfl, ?_⟩) SD0 ?_
    rotate_left
    · intro wz hSz
      skip
      go_simp
      (try with_reducible rfl)
    try simp only [Act.put, List.setIfInBounds_toArray, List.set_cons_zero, List.set_cons_succ]
    refine anyL_take (i := 1) (oi := { dst := some 20, op := Go.Op.load 9 (Go.Operand.tmp 19), type := 9, pos := "normalize.go:16", after := #[{ on := 0, ground := Go.Ground.data }], guard := none }) (v := ?_) rfl (by decide) (by kernel_rfl) (by kernel_rfl) (by kernel_rfl) (by kernel_rfl) (fun _ _ _ h => h) (Or.inl ⟨by rfl, ?_⟩) SD0 ?_
    rotate_left
    · intro wz hSz
      obtain ⟨z0, z1, z2, z3, z4⟩ := hSz
      go_simp
      (try with_reducible rfl)
    try simp only [Act.put, List.setIfInBounds_toArray, List.set_cons_zero, List.set_cons_succ]
    refine anyL_take (i := 3) (oi := { dst := some 22, op := Go.Op.fieldAddr 23 (Go.Operand.tmp 1) 1, type := 0, pos := "normalize.go:16", after := #[], guard := none }) (v := ?_) rfl (by decide) (by kernel_rfl) (by kernel_rfl) (by kernel_rfl) (by kernel_rfl) (fun _ _ _ h => h) (Or.inl ⟨by rfl, ?_⟩) SD0 ?_
    rotate_left
    · intro wz hSz
      skip
      go_simp
      (try with_reducible rfl)
    try simp only [Act.put, List.setIfInBounds_toArray, List.set_cons_zero, List.set_cons_succ]
    refine anyL_take (i := 4) (oi := { dst := some 23, op := Go.Op.load 9 (Go.Operand.tmp 22), type := 9, pos := "normalize.go:16", after := #[{ on := 3, ground := Go.Ground.data }], guard := none }) (v := ?_) rfl (by decide) (by kernel_rfl) (by kernel_rfl) (by kernel_rfl) (by kernel_rfl) (fun _ _ _ h => h) (Or.inl ⟨by rfl, ?_⟩) SD0 ?_
    rotate_left
    · intro wz hSz
      obtain ⟨z0, z1, z2, z3, z4⟩ := hSz
      go_simp
      (try with_reducible rfl)
    try simp only [Act.put, List.setIfInBounds_toArray, List.set_cons_zero, List.set_cons_succ]
    refine anyL_take (i := 6) (oi := { dst := some 25, op := Go.Op.fieldAddr 23 (Go.Operand.tmp 1) 2, type := 0, pos := "normalize.go:16", after := #[], guard := none }) (v := ?_) rfl (by decide) (by kernel_rfl) (by kernel_rfl) (by kernel_rfl) (by kernel_rfl) (fun _ _ _ h => h) (Or.inl ⟨by rfl, ?_⟩) SD0 ?_
    rotate_left
    · intro wz hSz
      skip
      go_simp
      (try with_reducible rfl)
    try simp only [Act.put, List.setIfInBounds_toArray, List.set_cons_zero, List.set_cons_succ]
    refine anyL_take (i := 7) (oi := { dst := some 26, op := Go.Op.load 9 (Go.Operand.tmp 25), type := 9, pos := "normalize.go:16", after := #[{ on := 6, ground := Go.Ground.data }], guard := none }) (v := ?_) rfl (by decide) (by kernel_rfl) (by kernel_rfl) (by kernel_rfl) (by kernel_rfl) (fun _ _ _ h => h) (Or.inl ⟨by rfl, ?_⟩) SD0 ?_
    rotate_left
    · intro wz hSz
      obtain ⟨z0, z1, z2, z3, z4⟩ := hSz
      go_simp
      (try with_reducible rfl)
    try simp only [Act.put, List.setIfInBounds_toArray, List.set_cons_zero, List.set_cons_succ]
    refine anyL_take (i := 9) (oi := { dst := some 28, op := Go.Op.fieldAddr 23 (Go.Operand.tmp 1) 3, type := 0, pos := "normalize.go:16", after := #[], guard := none }) (v := ?_) rfl (by decide) (by kernel_rfl) (by kernel_rfl) (by kernel_rfl) (by kernel_rfl) (fun _ _ _ h => h) (Or.inl ⟨by rfl, ?_⟩) SD0 ?_
    rotate_left
    · intro wz hSz
      skip
      go_simp
      (try with_reducible rfl)
    try simp only [Act.put, List.setIfInBounds_toArray, List.set_cons_zero, List.set_cons_succ]
    refine anyL_take (i := 10) (oi := { dst := some 29, op := Go.Op.load 9 (Go.Operand.tmp 28), type := 9, pos := "normalize.go:16", after := #[{ on := 9, ground := Go.Ground.data }], guard := none }) (v := ?_) rfl (by decide) (by kernel_rfl) (by kernel_rfl) (by kernel_rfl) (by kernel_rfl) (fun _ _ _ h => h) (Or.inl ⟨by rfl, ?_⟩) SD0 ?_
    rotate_left
    · intro wz hSz
      obtain ⟨z0, z1, z2, z3, z4⟩ := hSz
      go_simp
      (try with_reducible rfl)
    try simp only [Act.put, List.setIfInBounds_toArray, List.set_cons_zero, List.set_cons_succ]
    refine anyL_ready (rs := [2]) (by kernel_rfl) (by simp) ?_
    refine AllL.cons (o := { dst := some 21, op := Go.Op.call { callee := Go.Callee.value (Go.Operand.func 27), args := #[Go.Operand.tmp 20], argTypes := #[9] }, type := 9, pos := "normalize.go:16", after := #[{ on := 1, ground := Go.Ground.data }], guard := none }) rfl (fun K' hK => ?_) AllL.nil
    rw [if_pos (by rfl)]
    go_simp
    go_at_call 27
    refine (k1 _).mono ?_
    rintro e1 w1 ⟨rfl, b1⟩
    have S1 := HSB.out _ _ b1 SD0
    have HB1 := Lib.hid (HD.out.trans (b1.mono HD.out.size))
    refine hK _ _ S1 ?_
    clear hK K' b1 SD0
    try simp only [Act.put, List.setIfInBounds_toArray, List.set_cons_zero, List.set_cons_succ]
    refine anyL_take (i := 12) (oi := { dst := some 31, op := Go.Op.fieldAddr 23 (Go.Operand.tmp 1) 0, type := 0, pos := "normalize.go:16", after := #[{ on := 0, ground := Go.Ground.phase }, { on := 1, ground := Go.Ground.phase }, { on := 2, ground := Go.Ground.phase }, { on := 3, ground := Go.Ground.phase }, { on := 4, ground := Go.Ground.phase }, { on := 5, ground := Go.Ground.textOnly Go.Departure.lateStoresUnsure }, { on := 6, ground := Go.Ground.phase }, { on := 7, ground := Go.Ground.phase }, { on := 8, ground := Go.Ground.textOnly Go.Departure.lateStoresUnsure }, { on := 9, ground := Go.Ground.phase }, { on := 10, ground := Go.Ground.phase }, { on := 11, ground := Go.Ground.textOnly Go.Departure.lateStoresUnsure }], guard := none }) (v := ?_) rfl (by decide) (by kernel_rfl) (by kernel_rfl) (by kernel_rfl) (by kernel_rfl) (fun _ _ _ h => h) (Or.inl ⟨by rfl, ?_⟩) S1 ?_
    rotate_left
    · intro wz hSz
      skip
      go_simp
      (try with_reducible rfl)
    try simp only [Act.put, List.setIfInBounds_toArray, List.set_cons_zero, List.set_cons_succ]
    refine anyL_ready (rs := [5]) (by kernel_rfl) (by simp) ?_
    refine AllL.cons (o := { dst := some 24, op := Go.Op.call { callee := Go.Callee.value (Go.Operand.func 27), args := #[Go.Operand.tmp 23], argTypes := #[9] }, type := 9, pos := "normalize.go:16", after := #[{ on := 4, ground := Go.Ground.data }, { on := 2, ground := Go.Ground.chain }], guard := none }) rfl (fun K' hK => ?_) AllL.nil
    rw [if_pos (by rfl)]
    go_simp
    go_at_call 27
    refine (k2 _).mono ?_
    rintro e2 w2 ⟨rfl, b2⟩
    have S2 := HSB.out _ _ b2 S1
    have HB2 := Lib.hid (HB1.out.trans (b2.mono HB1.out.size))
    refine hK _ _ S2 ?_
    clear hK K' b2 S1
    try simp only [Act.put, List.setIfInBounds_toArray, List.set_cons_zero, List.set_cons_succ]
    refine anyL_ready (rs := [8]) (by kernel_rfl) (by simp) ?_
    refine AllL.cons (o := { dst := some 27, op := Go.Op.call { callee := Go.Callee.value (Go.Operand.func 27), args := #[Go.Operand.tmp 26], argTypes := #[9] }, type := 9, pos := "normalize.go:16", after := #[{ on := 7, ground := Go.Ground.data }, { on := 5, ground := Go.Ground.chain }], guard := none }) rfl (fun K' hK => ?_) AllL.nil
    rw [if_pos (by rfl)]
    go_simp
    go_at_call 27
    refine (k3 _).mono ?_
    rintro e3 w3 ⟨rfl, b3⟩
    have S3 := HSB.out _ _ b3 S2
    have HB3 := Lib.hid (HB2.out.trans (b3.mono HB2.out.size))
    refine hK _ _ S3 ?_
    clear hK K' b3 S2
    try simp only [Act.put, List.setIfInBounds_toArray, List.set_cons_zero, List.set_cons_succ]
    refine anyL_ready (rs := [11]) (by kernel_rfl) (by simp) ?_
    refine AllL.cons (o := { dst := some 30, op := Go.Op.call { callee := Go.Callee.value (Go.Operand.func 27), args := #[Go.Operand.tmp 29], argTypes := #[9] }, type := 9, pos := "normalize.go:16", after := #[{ on := 10, ground := Go.Ground.data }, { on := 8, ground := Go.Ground.chain }], guard := none }) rfl (fun K' hK => ?_) AllL.nil
    rw [if_pos (by rfl)]
    go_simp
    go_at_call 27
    refine (k4 _).mono ?_
    rintro e4 w4 ⟨rfl, b4⟩
    have S4 := HSB.out _ _ b4 S3
    have HB4 := Lib.hid (HB3.out.trans (b4.mono HB3.out.size))
    refine hK _ _ S4 ?_
    clear hK K' b4 S3
    try simp only [Act.put, List.setIfInBounds_toArray, List.set_cons_zero, List.set_cons_succ]
    refine anyL_ready (rs := [13]) (by kernel_rfl) (by simp) ?_
    have hMx := HMX.out.more HB4.out
    have x0 := hMx.cell 0
    have x1 := hMx.cell 1
    have x2 := hMx.cell 2
    have x3 := hMx.cell 3
    have x4 := hMx.cell 4
    simp only [List.getElem?_toArray, List.getElem?_cons_zero, List.getElem?_cons_succ] at x0 x1 x2 x3 x4
    have u0 := hMx.fr 0
    have u1 := hMx.fr 1
    have u2 := hMx.fr 2
    have u3 := hMx.fr 3
    have u4 := hMx.fr 4
    clear hMx
    refine AllL.last (o := { dst := none, op := Go.Op.store 9 (Go.Operand.tmp 31) (Go.Operand.tmp 21), type := 0, pos := "normalize.go:16", after := #[{ on := 12, ground := Go.Ground.data }, { on := 2, ground := Go.Ground.data }, { on := 11, ground := Go.Ground.chain }, { on := 0, ground := Go.Ground.phase }, { on := 1, ground := Go.Ground.phase }, { on := 2, ground := Go.Ground.phase }, { on := 3, ground := Go.Ground.phase }, { on := 4, ground := Go.Ground.phase }, { on := 5, ground := Go.Ground.textOnly Go.Departure.lateStoresUnsure }, { on := 6, ground := Go.Ground.phase }, { on := 7, ground := Go.Ground.phase }, { on := 8, ground := Go.Ground.textOnly Go.Departure.lateStoresUnsure }, { on := 9, ground := Go.Ground.phase }, { on := 10, ground := Go.Ground.phase }, { on := 11, ground := Go.Ground.textOnly Go.Departure.lateStoresUnsure }], guard := none }) rfl (by decide) (fun K' hK => ?_)
    rw [if_pos (by rfl)]
    go_simp
    refine hK _ _ ?_
    clear hK K'
    try simp only [Act.put, List.setIfInBounds_toArray, List.set_cons_zero, List.set_cons_succ]
    refine anyL_takeD (i := 14) (oi := { dst := some 32, op := Go.Op.fieldAddr 23 (Go.Operand.tmp 1) 1, type := 0, pos := "normalize.go:16", after := #[{ on := 0, ground := Go.Ground.phase }, { on := 1, ground := Go.Ground.phase }, { on := 2, ground := Go.Ground.phase }, { on := 3, ground := Go.Ground.phase }, { on := 4, ground := Go.Ground.phase }, { on := 5, ground := Go.Ground.phase }, { on := 6, ground := Go.Ground.phase }, { on := 7, ground := Go.Ground.phase }, { on := 8, ground := Go.Ground.textOnly Go.Departure.lateStoresUnsure }, { on := 9, ground := Go.Ground.phase }, { on := 10, ground := Go.Ground.phase }, { on := 11, ground := Go.Ground.textOnly Go.Departure.lateStoresUnsure }, { on := 12, ground := Go.Ground.phase }, { on := 13, ground := Go.Ground.phase }], guard := none }) (v := ?_) rfl (by decide) (by kernel_rfl) (by kernel_rfl) (by kernel_rfl) (fun _ _ _ h => h) (Or.inl ⟨by rfl, ?_⟩) ?_
    rotate_left
    · intro wz _
      go_simp
      (try with_reducible rfl)
    try simp only [Act.put, List.setIfInBounds_toArray, List.set_cons_zero, List.set_cons_succ]
    refine anyL_ready (rs := [15]) (by kernel_rfl) (by simp) ?_
    refine AllL.last (o := { dst := none, op := Go.Op.store 9 (Go.Operand.tmp 32) (Go.Operand.tmp 24), type := 0, pos := "normalize.go:16", after := #[{ on := 14, ground := Go.Ground.data }, { on := 5, ground := Go.Ground.data }, { on := 13, ground := Go.Ground.chain }, { on := 0, ground := Go.Ground.phase }, { on := 1, ground := Go.Ground.phase }, { on := 2, ground := Go.Ground.phase }, { on := 3, ground := Go.Ground.phase }, { on := 4, ground := Go.Ground.phase }, { on := 5, ground := Go.Ground.phase }, { on := 6, ground := Go.Ground.phase }, { on := 7, ground := Go.Ground.phase }, { on := 8, ground := Go.Ground.textOnly Go.Departure.lateStoresUnsure }, { on := 9, ground := Go.Ground.phase }, { on := 10, ground := Go.Ground.phase }, { on := 11, ground := Go.Ground.textOnly Go.Departure.lateStoresUnsure }, { on := 12, ground := Go.Ground.phase }, { on := 13, ground := Go.Ground.phase }], guard := none }) rfl (by decide) (fun K' hK => ?_)
    rw [if_pos (by rfl)]
    go_simp
    refine hK _ _ ?_
    clear hK K'
    try simp only [Act.put, List.setIfInBounds_toArray, List.set_cons_zero, List.set_cons_succ]
    refine anyL_takeD (i := 16) (oi := { dst := some 33, op := Go.Op.fieldAddr 23 (Go.Operand.tmp 1) 2, type := 0, pos := "normalize.go:16", after := #[{ on := 0, ground := Go.Ground.phase }, { on := 1, ground := Go.Ground.phase }, { on := 2, ground := Go.Ground.phase }, { on := 3, ground := Go.Ground.phase }, { on := 4, ground := Go.Ground.phase }, { on := 5, ground := Go.Ground.phase }, { on := 6, ground := Go.Ground.phase }, { on := 7, ground := Go.Ground.phase }, { on := 8, ground := Go.Ground.phase }, { on := 9, ground := Go.Ground.phase }, { on := 10, ground := Go.Ground.phase }, { on := 11, ground := Go.Ground.textOnly Go.Departure.lateStoresUnsure }, { on := 12, ground := Go.Ground.phase }, { on := 13, ground := Go.Ground.phase }, { on := 14, ground := Go.Ground.phase }, { on := 15, ground := Go.Ground.phase }], guard := none }) (v := ?_) rfl (by decide) (by kernel_rfl) (by kernel_rfl) (by kernel_rfl) (fun _ _ _ h => h) (Or.inl ⟨by rfl, ?_⟩) ?_
    rotate_left
    · intro wz _
      go_simp
      (try with_reducible rfl)
    try simp only [Act.put, List.setIfInBounds_toArray, List.set_cons_zero, List.set_cons_succ]
    refine anyL_ready (rs := [17]) (by kernel_rfl) (by simp) ?_
    refine AllL.last (o := { dst := none, op := Go.Op.store 9 (Go.Operand.tmp 33) (Go.Operand.tmp 27), type := 0, pos := "normalize.go:16", after := #[{ on := 16, ground := Go.Ground.data }, { on := 8, ground := Go.Ground.data }, { on := 15, ground := Go.Ground.chain }, { on := 0, ground := Go.Ground.phase }, { on := 1, ground := Go.Ground.phase }, { on := 2, ground := Go.Ground.phase }, { on := 3, ground := Go.Ground.phase }, { on := 4, ground := Go.Ground.phase }, { on := 5, ground := Go.Ground.phase }, { on := 6, ground := Go.Ground.phase }, { on := 7, ground := Go.Ground.phase }, { on := 8, ground := Go.Ground.phase }, { on := 9, ground := Go.Ground.phase }, { on := 10, ground := Go.Ground.phase }, { on := 11, ground := Go.Ground.textOnly Go.Departure.lateStoresUnsure }, { on := 12, ground := Go.Ground.phase }, { on := 13, ground := Go.Ground.phase }, { on := 14, ground := Go.Ground.phase }, { on := 15, ground := Go.Ground.phase }], guard := none }) rfl (by decide) (fun K' hK => ?_)
    rw [if_pos (by rfl)]
    go_simp
    refine hK _ _ ?_
    clear hK K'
    try simp only [Act.put, List.setIfInBounds_toArray, List.set_cons_zero, List.set_cons_succ]
    refine anyL_takeD (i := 18) (oi := { dst := some 34, op := Go.Op.fieldAddr 23 (Go.Operand.tmp 1) 3, type := 0, pos := "normalize.go:16", after := #[{ on := 0, ground := Go.Ground.phase }, { on := 1, ground := Go.Ground.phase }, { on := 2, ground := Go.Ground.phase }, { on := 3, ground := Go.Ground.phase }, { on := 4, ground := Go.Ground.phase }, { on := 5, ground := Go.Ground.phase }, { on := 6, ground := Go.Ground.phase }, { on := 7, ground := Go.Ground.phase }, { on := 8, ground := Go.Ground.phase }, { on := 9, ground := Go.Ground.phase }, { on := 10, ground := Go.Ground.phase }, { on := 11, ground := Go.Ground.phase }, { on := 12, ground := Go.Ground.phase }, { on := 13, ground := Go.Ground.phase }, { on := 14, ground := Go.Ground.phase }, { on := 15, ground := Go.Ground.phase }, { on := 16, ground := Go.Ground.phase }, { on := 17, ground := Go.Ground.phase }], guard := none }) (v := ?_) rfl (by decide) (by kernel_rfl) (by kernel_rfl) (by kernel_rfl) (fun _ _ _ h => h) (Or.inl ⟨by rfl, ?_⟩) ?_
    rotate_left
    · intro wz _
      go_simp
      (try with_reducible rfl)
    try simp only [Act.put, List.setIfInBounds_toArray, List.set_cons_zero, List.set_cons_succ]
    refine anyL_ready (rs := [19]) (by kernel_rfl) (by simp) ?_
    refine AllL.last (o := { dst := none, op := Go.Op.store 9 (Go.Operand.tmp 34) (Go.Operand.tmp 30), type := 0, pos := "normalize.go:16", after := #[{ on := 18, ground := Go.Ground.data }, { on := 11, ground := Go.Ground.data }, { on := 17, ground := Go.Ground.chain }, { on := 0, ground := Go.Ground.phase }, { on := 1, ground := Go.Ground.phase }, { on := 2, ground := Go.Ground.phase }, { on := 3, ground := Go.Ground.phase }, { on := 4, ground := Go.Ground.phase }, { on := 5, ground := Go.Ground.phase }, { on := 6, ground := Go.Ground.phase }, { on := 7, ground := Go.Ground.phase }, { on := 8, ground := Go.Ground.phase }, { on := 9, ground := Go.Ground.phase }, { on := 10, ground := Go.Ground.phase }, { on := 11, ground := Go.Ground.phase }, { on := 12, ground := Go.Ground.phase }, { on := 13, ground := Go.Ground.phase }, { on := 14, ground := Go.Ground.phase }, { on := 15, ground := Go.Ground.phase }, { on := 16, ground := Go.Ground.phase }, { on := 17, ground := Go.Ground.phase }], guard := none }) rfl (by decide) (fun K' hK => ?_)
    rw [if_pos (by rfl)]
    go_simp
    refine hK _ _ ?_
    clear hK K'
    try simp only [Act.put, List.setIfInBounds_toArray, List.set_cons_zero, List.set_cons_succ]
    refine anyL_done (by kernel_rfl) ?_ _
    obtain ⟨wc, hwc⟩ : ∃ wc, wc = ((((w4.setCell ⟨w.heap.size, 0, none⟩ (.string s1)).setCell ⟨w.heap.size, 1, none⟩ (.string s2)).setCell ⟨w.heap.size, 2, none⟩ (.string s3)).setCell ⟨w.heap.size, 3, none⟩ (.string s4)) := ⟨_, rfl⟩
    have hM : MBlk wc w.heap.size #[.string s1, .string s2, .string s3, .string s4, .int .i64 x.upd] 23 := by
      rw [hwc]
      exact nz_set4 (HMX.out.more HB4.out) _ _ _ _
    have hM2 : MBlk wc (w.heap.size + 1) #[.string ⟨#[]⟩, .string ⟨#[]⟩, .string ⟨#[]⟩, .string ⟨#[]⟩, .int .i64 0] 23 := by
      rw [hwc]
      exact nz_far4 (HR.out.more HB4.out) (by omega) _ _ _ _
    have hBc : Below w.heap.size w wc := by
      rw [hwc]
      exact nz_below4 (HB.out.trans (HB4.out.mono HB.out.size)) (Nat.le_refl _) _ _ _ _
    simp only [← hwc]
    clear hwc x0 x1 x2 x3 x4 u0 u1 u2 u3 u4 S4 HB4 k1 k2 k3 k4 HSB HSP HMX
    have m0 := hM.cell 0
    have m1 := hM.cell 1
    have m2 := hM.cell 2
    have m3 := hM.cell 3
    have m4 := hM.cell 4
    simp only [List.getElem?_toArray, List.getElem?_cons_zero, List.getElem?_cons_succ] at m0 m1 m2 m3 m4
    have r0 := hM2.cell 0
    have r1 := hM2.cell 1
    have r2 := hM2.cell 2
    have r3 := hM2.cell 3
    have r4 := hM2.cell 4
    simp only [List.getElem?_toArray, List.getElem?_cons_zero, List.getElem?_cons_succ] at r0 r1 r2 r3 r4
    have t0 := hM2.fr 0
    have t1 := hM2.fr 1
    have t2 := hM2.fr 2
    have t3 := hM2.fr 3
    have t4 := hM2.fr 4
    have HFA : ∀ z : EntD, Below w.heap.size w (((((wc.setCell ⟨w.heap.size + 1, 0, none⟩ (.string z.id)).setCell ⟨w.heap.size + 1, 1, none⟩ (.string z.title)).setCell ⟨w.heap.size + 1, 2, none⟩ (.string z.link)).setCell ⟨w.heap.size + 1, 3, none⟩ (.string z.content)).setCell ⟨w.heap.size + 1, 4, none⟩ (.int .i64 z.upd)) := fun z => nm_below5 hBc (by omega) _ _ _ _ _
    have HF0 := Lib.hid (HFA entZ)
    have HF1 := Lib.hid (HFA ⟨s1, s2, s3, s4, x.upd⟩)
    clear HFA
    obtain ⟨Q1, Q2, Q3⟩ := HQ
    clear HF HR HB hBc hM hM2 HNN
    by_cases hs : s1.size = 0
    · obtain ⟨hRv, hEv⟩ := Q1 hs
      obtain ⟨y0, y1, y2⟩ := mstr_none hs
      subst hRv hEv
      clear hs HF1 Q1 Q2 Q3
      go_wp2
      exact bodyPost_ret (v := .tuple #[.agg #[.string ⟨#[]⟩, .string ⟨#[]⟩, .string ⟨#[]⟩, .string ⟨#[]⟩, .int .i64 0], .int .i64 19]) (by simp [results, Tryz.results11, go_sem, mset_same, r0, r1, r2, r3, r4]) rfl ⟨rfl, HF0.out⟩
    · obtain ⟨y0, y1, y2⟩ := mstr_some hs
      have cR := fun wx => nz_inRange x.upd wx
      by_cases hT : inTB x.upd = true
      · obtain ⟨hRv, hEv⟩ := Q2 hs hT
        rw [hT] at cR
        subst hRv hEv
        clear hs hT HF0 Q1 Q2 Q3
        go_wp2_with (first | (go_at_call 28; refine (cR _).mono ?_; rintro e w9 ⟨rfl, rfl⟩))
        exact bodyPost_ret (v := .tuple #[.agg #[.string s1, .string s2, .string s3, .string s4, .int .i64 x.upd], .int .i64 0]) (by simp [results, Tryz.results11, go_sem, mset_same, r0, r1, r2, r3, r4]) rfl ⟨rfl, HF1.out⟩
      · obtain ⟨hRv, hEv⟩ := Q3 hs hT
        rw [Bool.eq_false_iff.2 hT] at cR
        subst hRv hEv
        clear hs hT HF1 Q1 Q2 Q3
        go_wp2_with (first | (go_at_call 28; refine (cR _).mono ?_; rintro e w9 ⟨rfl, rfl⟩))
        exact bodyPost_ret (v := .tuple #[.agg #[.string ⟨#[]⟩, .string ⟨#[]⟩, .string ⟨#[]⟩, .string ⟨#[]⟩, .int .i64 0], .int .i64 3]) (by simp [results, Tryz.results11, go_sem, mset_same, r0, r1, r2, r3, r4]) rfl ⟨rfl, HF0.out⟩
  · have hn0 : ¬ n = 0 := by have := HNN.out; omega
    have hRv := HRX.out
    rw [if_neg hn0] at hRv
    have hEv := HEX.out
    rw [if_neg (fun h => hn0 h.1)] at hEv
    subst hRv hEv
    clear HRX HEX k1 k2 k3 k4 SD
    have hM := HR.out.more HD.out
    have r0 := hM.cell 0
    have r1 := hM.cell 1
    have r2 := hM.cell 2
    have r3 := hM.cell 3
    have r4 := hM.cell 4
    simp only [List.getElem?_toArray, List.getElem?_cons_zero, List.getElem?_cons_succ] at r0 r1 r2 r3 r4
    have t0 := hM.fr 0
    have t1 := hM.fr 1
    have t2 := hM.fr 2
    have t3 := hM.fr 3
    have t4 := hM.fr 4
    have HFZ := Lib.hid (HF.out w4 entZ HD.out)
    clear HF HR HB HD hM
    go_wp2
    exact bodyPost_ret (v := .tuple #[.agg #[.string ⟨#[]⟩, .string ⟨#[]⟩, .string ⟨#[]⟩, .string ⟨#[]⟩, .int .i64 0], .int .i64 N]) (by simp [results, Tryz.results11, go_sem, mset_same, r0, r1, r2, r3, r4]) rfl ⟨by rw [HNN.out]; rfl, HFZ.out.2⟩
end Go.Proofs.YtbfalppeifkjdaaGreatDoor
end
section
namespace Go.Proofs.YtbfalppeifkjdaaGreatDoor
open Go.RowKit
def entCells (e : EntD) : List Value := [.string e.id, .string e.title, .string e.link, .string e.content, .int .i64 e.upd]
end Go.Proofs.YtbfalppeifkjdaaGreatDoor
end
section
namespace Go.Proofs.YtbfalppeifkjdaaGreatDoor
open Go.RowKit
theorem nz_infoE : (Tryz.prog.info? 23).map (fun i => (i.zero, i.size, i.bytes)) = some (some (.agg #[.string ⟨#[]⟩, .string ⟨#[]⟩, .string ⟨#[]⟩, .string ⟨#[]⟩, .int .i64 0]), 5, 72) := by kernel_rfl
set_option maxRecDepth 100000 in
set_option maxHeartbeats 16000000 in
theorem nz_eachE (l : List EntD) (p : Option Addr) (c : Nat) (w : World) (Ok : World → EntD → Prop) (hM : OkMono Ok) (N : EntD → EntD → Prop) (X : EntD → Nat) (B : Nat) (L : List Nat) (hl : EntsAt w p l) (hB : w.heap.size = B) (hn : l.length ≤ 1000000)
    (cN : ∀ x (v : Value), x ∈ l → v = .agg #[.string x.id, .string x.title, .string x.link, .string x.content, .int .i64 x.upd] → ∀ (M : List Nat) (wx : World), Below w.heap.size w wx → (∀ j ∈ M, j < wx.heap.size) → Calls Tryz.prog 11 #[v] wx fun e w' => ∃ y, e = .returned (.tuple #[.agg #[.string y.id, .string y.title, .string y.link, .string y.content, .int .i64 y.upd], .int .i64 (X x)]) ∧ (X x = 0 → N x y ∧ Ok (holes w' M) y) ∧ Below wx.heap.size wx w')
    (XL : List EntD → Nat) (hX0 : XL [] = 0) (hXc : ∀ x r, XL (x :: r) = if X x = 0 then XL r else X x) (hLw : ∀ j ∈ L, j < w.heap.size) :
    Calls Tryz.prog 37 #[.slice p l.length c, .func (.func 11) #[] #[]] w fun e w' => ∃ v, e = .returned (.tuple #[v, .int .i64 (XL l)]) ∧ (XL l = 0 → ∃ ys, PairL N l ys ∧ OutAt 23 5 entCells Ok B L v ys w') ∧ (XL l ≠ 0 → v = .slice none 0 0) ∧ Below w.heap.size w w' := by
  obtain ⟨i0, hi0, hi1, hi3, hi4⟩ := info_parts nz_infoE
  obtain ⟨R, hR⟩ : ∃ R, XL l = R := ⟨_, rfl⟩
  rw [hR]
  have HR := Lib.hid (show R = XL (l.drop 0) by rw [← hR]; rfl)
  have HL := Lib.hid hl
  have HC := Lib.hid cN
  have HXc := Lib.hid hXc
  have HX0 := Lib.hid hX0
  have HBB := Lib.hid hB
  have HLW := Lib.hid hLw
  have hnz : (l.length : Int) ≤ 1000000 := by omega
  have hO0 : OutAt 23 5 entCells Ok B L (.slice none 0 0) [] w := OutAt.nil w (Nat.le_of_eq hB.symm)
  have HO := Lib.hid hO0
  clear hl cN hXc hX0 hB hLw hO0 hR
  go_enter Tryz.func37, Tryz.ntmps37
  go_wp2
  go_loopw [6, 13] (fun u q wr => ∃ (i : Nat) (ys : List EntD) (v : Value), i ≤ l.length ∧ q = .int .i64 (i : Int) ∧ v = u ∧ R = XL (l.drop i) ∧ PairL N (l.take i) ys ∧ OutAt 23 5 entCells Ok B L v ys wr ∧ Below w.heap.size w wr) (fun _ q _ => l.length - (RowKit.intOf q).toNat)
  case atStart => exact ⟨0, [], _, Nat.zero_le _, rfl, rfl, HR.out, PairL.nil, HO.out, Below.refl _ _⟩
  case round =>
    clear HR HO
    obtain ⟨i, ys, v, hi, rfl, rfl, hR, hY, hO, hb⟩ := hrel
    have hz := hb.size
    have hyl := hY.len
    rw [List.length_take, Nat.min_eq_left hi] at hyl
    by_cases hlt : i < l.length
    · have hiz : (i : Int) < (l.length : Int) := by omega
      obtain ⟨a, rfl, a0, a1, a2, a3, a4⟩ := HL.out.below hb i hlt
      rw [List.drop_eq_getElem_cons hlt, HXc.out] at hR
      have htk : l.take (i + 1) = l.take i ++ [l[i]] := List.take_succ_eq_append_getElem hlt
      obtain ⟨x, hx⟩ : ∃ x, l[i] = x := ⟨_, rfl⟩
      have hmem : x ∈ l := by rw [← hx]; exact List.getElem_mem _
      rw [hx] at hR htk a0 a1 a2 a3 a4
      have hxis : (EntV x : Value) = .agg #[.string x.id, .string x.title, .string x.link, .string x.content, .int .i64 x.upd] := rfl
      obtain ⟨aa, haa⟩ : ∃ aa, a.add (i * 5) = aa := ⟨_, rfl⟩
      rw [haa] at a0 a1 a2 a3 a4
      simp only [Addr.add, Nat.reduceEqDiff, ↓reduceIte] at a1 a2 a3 a4
      obtain ⟨W2, hW2⟩ : ∃ W2, W2 = wr.alloc (.cells #[.string x.id, .string x.title, .string x.link, .string x.content, .int .i64 x.upd] 23) := ⟨_, rfl⟩
      have hb2 : Below wr.heap.size wr W2 := by rw [hW2]; exact (Below.refl _ _).alloc (Nat.le_refl _) _
      have hX : W2.cell? ⟨wr.heap.size, 0, none⟩ = some (.string x.id) ∧ W2.cell? ⟨wr.heap.size, 1, none⟩ = some (.string x.title) ∧ W2.cell? ⟨wr.heap.size, 2, none⟩ = some (.string x.link) ∧ W2.cell? ⟨wr.heap.size, 3, none⟩ = some (.string x.content) ∧ W2.cell? ⟨wr.heap.size, 4, none⟩ = some (.int .i64 x.upd) := by
        rw [hW2]
        have h := heap_alloc_new wr (.cells #[.string x.id, .string x.title, .string x.link, .string x.content, .int .i64 x.upd] 23)
        exact ⟨cell_of_row _ _ 0 _ _ _ h, cell_of_row _ _ 1 _ _ _ h, cell_of_row _ _ 2 _ _ _ h, cell_of_row _ _ 3 _ _ _ h, cell_of_row _ _ 4 _ _ _ h⟩
      have hbw2 := hb.trans (hb2.mono hz)
      have hO2 := hO.more hM hb2
      obtain ⟨vb, hvb⟩ : ∃ vb, vb = v.ownBlock.toList ++ L := ⟨_, rfl⟩
      have hvl : ∀ j ∈ vb, j < W2.heap.size := fun j hj => by
        rw [hvb] at hj
        rcases List.mem_append.1 hj with hj | hj
        · exact (hO2.row.lt j (by simpa using hj)).2
        · have := HLW.out j hj
          have := hbw2.size
          omega
      have cV := HC.out x _ hmem rfl vb W2 hbw2 hvl
      obtain ⟨k0, k1, k2, k3, k4⟩ := hX
      have HHY := Lib.hid hY
      have HO2 := Lib.hid hO2
      have HB2 := Lib.hid hbw2
      have HTK := Lib.hid htk
      have HVB := Lib.hid hvb
      clear hY hO hb hO2 hbw2 htk hvb hvl hmem hxis hx
      by_cases hx0 : X (x) = 0
      · rw [if_pos hx0] at hR
        rw [hx0] at cV
        have HRR := Lib.hid hR
        clear hx0 hR
        go_upto_region 5 with fail
        simp only [← hW2]
        clear hW2 hb2 haa a0 a1 a2 a3 a4
        go_wp2_with fail
        refine cV.mono ?_
        rintro e w4 ⟨y, rfl, hN, b4⟩
        obtain ⟨hN, hOk⟩ := hN trivial
        have hO4 := HO2.out.more hM b4
        have hB4 := HB2.out.trans (b4.mono HB2.out.size)
        rw [HVB.out] at hOk
        obtain ⟨W5, hW5⟩ : ∃ W5, W5 = w4.alloc (.cells #[.string y.id, .string y.title, .string y.link, .string y.content, .int .i64 y.upd] 23) := ⟨_, rfl⟩
        have hb5 : Below w4.heap.size w4 W5 := by rw [hW5]; exact (Below.refl _ _).alloc (Nat.le_refl _) _
        have hY5 : W5.cell? ⟨w4.heap.size, 0, none⟩ = some (.string y.id) ∧ W5.cell? ⟨w4.heap.size, 1, none⟩ = some (.string y.title) ∧ W5.cell? ⟨w4.heap.size, 2, none⟩ = some (.string y.link) ∧ W5.cell? ⟨w4.heap.size, 3, none⟩ = some (.string y.content) ∧ W5.cell? ⟨w4.heap.size, 4, none⟩ = some (.int .i64 y.upd) := by
          rw [hW5]
          have h := heap_alloc_new w4 (.cells #[.string y.id, .string y.title, .string y.link, .string y.content, .int .i64 y.upd] 23)
          exact ⟨cell_of_row _ _ 0 _ _ _ h, cell_of_row _ _ 1 _ _ _ h, cell_of_row _ _ 2 _ _ _ h, cell_of_row _ _ 3 _ _ _ h, cell_of_row _ _ 4 _ _ _ h⟩
        obtain ⟨W6, hW6⟩ : ∃ W6, W6 = W5.alloc (.cells #[.string y.id, .string y.title, .string y.link, .string y.content, .int .i64 y.upd] 23) := ⟨_, rfl⟩
        have hb6 : Below W5.heap.size W5 W6 := by rw [hW6]; exact (Below.refl _ _).alloc (Nat.le_refl _) _
        have hz6 : W6.heap.size = W5.heap.size + 1 := by rw [hW6]; simp
        have hnews : ∀ j u, ([.string y.id, .string y.title, .string y.link, .string y.content, .int .i64 y.upd] : List Value)[j]? = some u → W6.cell? ((⟨W5.heap.size, 0, none⟩ : Addr).add j) = some u := by
          rw [hW6]
          exact World.news_of_block (heap_alloc_new W5 (.cells #[.string y.id, .string y.title, .string y.link, .string y.content, .int .i64 y.upd] 23))
        have hO6 := (hO4.more hM hb5).more hM hb6
        have hOk6 := hM _ _ y (Goes.below (hb5.trans (hb6.mono hb5.size))).both hOk
        have hB6 := (hB4.trans (hb5.mono hB4.size)).trans (hb6.mono (hB4.trans (hb5.mono hB4.size)).size)
        have hrow6 := hO6.row
        have HO6 := Lib.hid hO6
        have HOk6 := Lib.hid hOk6
        have HB6 := Lib.hid hB6
        have HN := Lib.hid hN
        obtain ⟨q0, q1, q2, q3, q4⟩ := hY5
        have h1c : ∀ u ∈ ([.string y.id, .string y.title, .string y.link, .string y.content, .int .i64 y.upd] : List Value), u.oneCell' = true := by
          intro u hu
          simp only [List.mem_cons, List.not_mem_nil, or_false] at hu
          rcases hu with rfl | rfl | rfl | rfl | rfl <;> rfl
        have hBw6 : B ≤ W6.heap.size := hO6.size
        have hyz : ys.length ≤ 1000000 := by omega
        have hLN : ([.string y.id, .string y.title, .string y.link, .string y.content, .int .i64 y.upd] : List Value).length = 1 * 5 := rfl
        clear HO2 HB2 hN hOk hO4 hB4 b4 hO6 hOk6 hB6 cV HVB hb5 hb6
        go_upto_region 6 with fail
        simp only [← hW5]
        clear hW5
        subst hW6
        go_wp2_with (at_builtin; refine wpList_append_lies _ rfl (.tmp 26) (.tmp 28) 33 rfl B 23 i0 (.agg #[.string ⟨#[]⟩, .string ⟨#[]⟩, .string ⟨#[]⟩, .string ⟨#[]⟩, .int .i64 0]) 5 72 Tryz.underlying33 hi0 hi1 hi3 hi4 rfl (by decide) v ys.length (rowC entCells ys) rfl hrow6 ⟨W5.heap.size, 0, none⟩ 1 1 [.string y.id, .string y.title, .string y.link, .string y.content, .int .i64 y.upd] rfl hLN hnews h1c (by decide) (by unfold maxLen; omega) (by omega) hBw6 _ rfl ?_; intro g cap w7 hown7 hgr7 hat7 hlt7)
        have HN2 := Lib.hid (HO6.out.put hM HOk6.out rfl hown7 hgr7 hat7)
        have HB7 := Lib.hid (HO6.out.below HB6.out (Nat.le_of_eq HBB.out) hgr7)
        clear hown7 hgr7 hat7 hlt7 hnews hrow6 h1c HO6 HOk6 HB6
        go_wp2
        go_roundw
        case rel => exact ⟨i + 1, ys ++ [y], _, by omega, by go_num, by rw [hyl], HRR.out, by rw [HTK.out]; exact HHY.out.snoc HN.out, HN2.out, HB7.out⟩
        case measure => simp [RowKit.intOf]; omega
      · rw [if_neg hx0] at hR
        obtain ⟨n, hn2⟩ : ∃ n, X (x) = n := ⟨_, rfl⟩
        rw [hn2] at hR hx0 cV
        obtain ⟨z, hzz⟩ : ∃ z : Int, z = (n : Int) := ⟨_, rfl⟩
        have hz0 : ¬ z = 0 := by omega
        rw [← hzz] at cV
        have HRR := Lib.hid hR
        have HZZ := Lib.hid hzz
        have HX1 := Lib.hid hx0
        clear hR hn2 hzz hx0
        go_upto_region 5 with fail
        simp only [← hW2]
        clear hW2 hb2 haa a0 a1 a2 a3 a4
        go_wp2_with fail
        refine cV.mono ?_
        rintro e w4 ⟨y, rfl, hN, b4⟩
        have HB4 := Lib.hid (HB2.out.trans (b4.mono HB2.out.size))
        have hb5 : ∀ o : Obj, Below w.heap.size w (w4.alloc o) := fun o => HB4.out.alloc (by have := HB4.out.size; omega) o
        have HB5 := Lib.hid hb5
        clear HO2 HB2 b4 cV HVB hb5 hN
        go_wp2
        exact bodyPost_ret (v := .tuple #[.slice none 0 0, .int .i64 z]) (by simp [results, Tryz.results37, go_sem]) rfl ⟨_, by rw [HRR.out, HZZ.out], fun h => absurd (HRR.out.symm.trans h) HX1.out, fun _ => rfl, HB5.out _⟩
    · obtain rfl : i = l.length := by omega
      have hiz : ¬ (l.length : Int) < (l.length : Int) := by omega
      rw [List.drop_length, HX0.out] at hR
      rw [List.take_length] at hY
      have HRR := Lib.hid hR
      have HHY := Lib.hid hY
      have HO2 := Lib.hid hO
      have HB2 := Lib.hid hb
      clear hR hY hO hb
      go_wp2
      exact bodyPost_ret (v := .tuple #[v, .int .i64 0]) (by simp [results, Tryz.results37, go_sem]) rfl ⟨_, by rw [HRR.out]; rfl, fun _ => ⟨ys, HHY.out, HO2.out⟩, fun h => absurd HRR.out h, HB2.out⟩
end Go.Proofs.YtbfalppeifkjdaaGreatDoor
end
section
namespace Go.Proofs.YtbfalppeifkjdaaGreatDoor
open Go.RowKit
def EOk (x : EntD) : Prop := (x.id.size ≤ 5000 ∧ x.title.size ≤ 5000 ∧ x.link.size ≤ 5000 ∧ x.content.size ≤ 5000) ∧ -9223372036854775808 ≤ x.upd ∧ x.upd ≤ 9223372036854775807
theorem ltE_eok {x y : EntD} (hx : EOk x) (hy : EOk y) : EOk (ltE x y) := by
  rcases ltE_or x y with h | h <;> rw [h] <;> assumption
theorem nz_laterE {x y : EntD} (hx : EOk x) (hy : EOk y) (w : World) (hT : TabW w) : Calls Tryz.prog 55 #[EntV x, EntV y] w fun e w' => e = .returned (EntV (ltE x y)) ∧ Below w.heap.size w w' := by
  obtain ⟨⟨h1, h2, h3, h4⟩, h5, h6⟩ := hx
  obtain ⟨⟨g1, g2, g3, g4⟩, g5, g6⟩ := hy
  exact mc_LaterEntry x y w (fun w2 hb => mc_EntryKey x w2 (by omega) h5 h6 (TabW_below hT hb)) (fun w2 hb => mc_EntryKey y w2 (by omega) g5 g6 (TabW_below hT hb))
theorem late_all {α : Type} {mg : α → α → α} {P : α → Prop} (hP : ∀ a b, P a → P b → P (mg a b)) : ∀ (l : List α) (z : α), lateG mg l = some z → (∀ x ∈ l, P x) → P z := by
  intro l z h hl
  cases l with
  | nil => cases h
  | cons x r =>
    simp only [lateG, Option.some.injEq] at h
    subst h
    have : ∀ (r : List α) (x : α), P x → (∀ y ∈ r, P y) → P (r.foldl mg x) := by
      intro r
      induction r with
      | nil => intro x h _; exact h
      | cons y r ih => intro x h hr; exact ih _ (hP x y h (hr y List.mem_cons_self)) fun z hz => hr z (List.mem_cons_of_mem _ hz)
    exact this r x (hl x List.mem_cons_self) fun y hy => hl y (List.mem_cons_of_mem _ hy)
theorem late_some {α : Type} {mg : α → α → α} {l : List α} (h : l ≠ []) : ∃ z, lateG mg l = some z := by
  cases l with
  | nil => exact absurd rfl h
  | cons x r => exact ⟨_, rfl⟩
theorem add_add (a : Addr) (i j : Nat) : (a.add i).add j = a.add (i + j) := by
  unfold Addr.add
  by_cases h1 : i = 0
  · subst h1; rw [if_pos rfl, Nat.zero_add]
  · rw [if_neg h1, if_neg (by omega : ¬ i + j = 0)]
    by_cases h2 : j = 0
    · subst h2; rw [if_pos rfl, Nat.add_zero]
    · rw [if_neg h2]
      simp only [Nat.add_assoc]
theorem ents_take {w : World} {p : Option Addr} {l : List EntD} (h : EntsAt w p l) (n : Nat) : EntsAt w p (l.take n) := fun i hi => by
  have hi' : i < l.length := by rw [List.length_take] at hi; omega
  have := h i hi'
  rw [List.getElem_take]
  exact this
theorem ents_drop {w : World} {a : Addr} {l : List EntD} (h : EntsAt w (some a) l) (n : Nat) : EntsAt w (some (a.add (n * 5))) (l.drop n) := fun i hi => by
  have hi' : n + i < l.length := by rw [List.length_drop] at hi; omega
  obtain ⟨a', ha, h0⟩ := h (n + i) hi'
  cases ha
  refine ⟨_, rfl, ?_⟩
  have e : (a.add (n * 5)).add (i * 5) = a.add ((n + i) * 5) := by
    have e1 : (n + i) * 5 = n * 5 + i * 5 := Nat.add_mul ..
    rw [e1]
    exact add_add a (n * 5) (i * 5)
  rw [e, List.getElem_drop]
  exact h0
theorem nz_size5 (wx : World) : (sizeOf (Tryz.prog.elem 33)).run Tryz.prog wx = .ok 5 wx := by kernel_rfl
set_option maxRecDepth 100000 in
set_option maxHeartbeats 16000000 in
theorem nz_latestE : ∀ (n : Nat) (l : List EntD) (p : Option Addr) (c : Nat) (w : World) (z : EntD), l.length = n → lateG ltE l = some z → EntsAt w p l → l.length ≤ c → n ≤ 1000000 → (∀ x ∈ l, EOk x) → TabW w →
    Calls Tryz.prog 54 #[.slice p l.length c, .func (.func 55) #[] #[]] w fun e w' => e = .returned (EntV z) ∧ Below w.heap.size w w' := by
  intro n
  induction n using Nat.strongRecOn with
  | ind n ih =>
  intro l p c w z hn hz hl hc hsz hE hT
  obtain ⟨W1, hW1⟩ : ∃ W1, W1 = w.alloc (.cells #[.string ⟨#[]⟩, .string ⟨#[]⟩, .string ⟨#[]⟩, .string ⟨#[]⟩, .int .i64 0] 23) := ⟨_, rfl⟩
  have hB : Below w.heap.size w W1 := by rw [hW1]; exact (Below.refl _ _).alloc (Nat.le_refl _) _
  have hR : MBlk W1 w.heap.size #[.string ⟨#[]⟩, .string ⟨#[]⟩, .string ⟨#[]⟩, .string ⟨#[]⟩, .int .i64 0] 23 := by rw [hW1]; exact heap_alloc_new w _
  have h0 : 0 < l.length := by
    cases l with
    | nil => cases hz
    | cons x r => simp
  obtain ⟨a, hp, -⟩ := hl 0 h0
  subst hp
  by_cases h1 : l.length = 1
  · obtain ⟨x, rfl⟩ := List.length_eq_one_iff.1 h1
    simp only [lateG, List.foldl_nil, Option.some.injEq] at hz
    subst hz
    obtain ⟨a', ha, c0, c1, c2, c3, c4⟩ := hl.below hB 0 h0
    cases ha
    simp only [List.getElem_cons_zero, Nat.zero_mul] at c0 c1 c2 c3 c4
    have ha0 : a.add 0 = a := by unfold Addr.add; rw [if_pos rfl]
    rw [ha0] at c0 c1 c2 c3 c4
    simp only [Addr.add, Nat.reduceEqDiff, ↓reduceIte] at c1 c2 c3 c4
    have hM := hR
    have r0 := hM.cell 0
    have r1 := hM.cell 1
    have r2 := hM.cell 2
    have r3 := hM.cell 3
    have r4 := hM.cell 4
    simp only [List.getElem?_toArray, List.getElem?_cons_zero, List.getElem?_cons_succ] at r0 r1 r2 r3 r4
    have t0 := hM.fr 0
    have t1 := hM.fr 1
    have t2 := hM.fr 2
    have t3 := hM.fr 3
    have t4 := hM.fr 4
    have HFB := Lib.hid (nm_below5 hB (Nat.le_refl _) (.string x.id) (.string x.title) (.string x.link) (.string x.content) (.int .i64 x.upd))
    clear ih hl hc hsz hE hT hM hR hB h1 hn h0
    unfold EntV
    go_enter Tryz.func54, Tryz.ntmps54
    go_upto_region 1 with fail
    simp only [← hW1]
    clear hW1
    go_wp2
    exact bodyPost_ret (v := .agg #[.string x.id, .string x.title, .string x.link, .string x.content, .int .i64 x.upd]) (by simp [results, Tryz.results54, go_sem, mset_same, r0, r1, r2, r3, r4]) rfl ⟨rfl, HFB.out⟩
  · obtain ⟨h, hh⟩ : ∃ h, h = l.length / 2 := ⟨_, rfl⟩
    have hh1 : 0 < h := by omega
    have hh2 : h < l.length := by omega
    have hne1 : l.take h ≠ [] := fun e => by have := congrArg List.length e; rw [List.length_take, List.length_nil] at this; omega
    have hne2 : l.drop h ≠ [] := fun e => by have := congrArg List.length e; rw [List.length_drop, List.length_nil] at this; omega
    obtain ⟨z1, hz1⟩ := late_some (mg := ltE) hne1
    obtain ⟨z2, hz2⟩ := late_some (mg := ltE) hne2
    have hz3 : z = ltE z1 z2 := by
      have := lateG_app ltE_assoc hz1 hz2
      rw [List.take_append_drop, hz] at this
      exact Option.some.inj this
    have E1 : ∀ x ∈ l.take h, EOk x := fun x hx => hE x (List.mem_of_mem_take hx)
    have E2 : ∀ x ∈ l.drop h, EOk x := fun x hx => hE x (List.mem_of_mem_drop hx)
    have O1 := late_all (P := EOk) (fun a b => ltE_eok) _ _ hz1 E1
    have O2 := late_all (P := EOk) (fun a b => ltE_eok) _ _ hz2 E2
    have hl1 : (l.take h).length = h := by rw [List.length_take]; omega
    have hl2 : (l.drop h).length = l.length - h := by rw [List.length_drop]
    have c1 : ∀ wx, Below W1.heap.size W1 wx → Calls Tryz.prog 54 #[.slice (some a) h c, .func (.func 55) #[] #[]] wx fun e w' => e = .returned (EntV z1) ∧ Below wx.heap.size wx w' := fun wx hb0 => by
      have hb := hB.trans (hb0.mono hB.size)
      have := ih h (by omega) (l.take h) (some a) c wx z1 hl1 hz1 ((ents_take hl h).below hb) (by omega) (by omega) E1 (TabW_below hT hb)
      rwa [hl1] at this
    have c2 : ∀ wx, Below W1.heap.size W1 wx → Calls Tryz.prog 54 #[.slice (some (a.add (h * 5))) (l.length - h) (c - h), .func (.func 55) #[] #[]] wx fun e w' => e = .returned (EntV z2) ∧ Below wx.heap.size wx w' := fun wx hb0 => by
      have hb := hB.trans (hb0.mono hB.size)
      have := ih (l.length - h) (by omega) (l.drop h) (some (a.add (h * 5))) (c - h) wx z2 hl2 hz2 ((ents_drop hl h).below hb) (by omega) (by omega) E2 (TabW_below hT hb)
      rwa [hl2] at this
    have c3 : ∀ wx, Below W1.heap.size W1 wx → Calls Tryz.prog 55 #[EntV z1, EntV z2] wx fun e w' => e = .returned (EntV z) ∧ Below wx.heap.size wx w' := fun wx hb0 => by
      have hb := hB.trans (hb0.mono hB.size)
      rw [hz3]
      exact nz_laterE O1 O2 wx (TabW_below hT hb)
    unfold EntV at c1 c2 c3 ⊢
    have hlz : (l.length : Int) ≤ 1000000 := by omega
    have hl1z : ¬ (l.length : Int) = 1 := by omega
    have hdz : (l.length : Int) / 2 = (h : Int) := by omega
    have hwh : IntKind.i64.wrap (h : Int) = (h : Int) := wrap_small _ (by omega) (by omega)
    have hhz : (h : Int) ≤ 1000000 := by omega
    have hsl1 : ∀ wx, (Instr.slice 33 (.slice (some a) l.length c) none (some (.int .i64 (h : Int))) none).run Tryz.prog wx = .ok (.slice (some a) h c) wx := fun wx => by
      rw [run_slice_h (P := Tryz.prog) (w := wx) 33 (some a) l.length c Tryz.underlying33 .i64 (h : Int) (by omega) (by omega), nz_size5]
      simp [Result.andThen, sliced, Addr.add]
    have hsl2 : ∀ wx, (Instr.slice 33 (.slice (some a) l.length c) (some (.int .i64 (h : Int))) none none).run Tryz.prog wx = .ok (.slice (some (a.add (h * 5))) (l.length - h) (c - h)) wx := fun wx => by
      rw [run_slice_l (P := Tryz.prog) (w := wx) 33 (some a) l.length c Tryz.underlying33 .i64 (h : Int) (by omega) (by omega), nz_size5]
      simp [Result.andThen, sliced, show ¬ c = h by omega]
    have hhc : (h : Int) ≤ (c : Int) := by omega
    have hhl : (h : Int) ≤ (l.length : Int) := by omega
    have hhp : (0 : Int) ≤ (h : Int) := by omega
    obtain ⟨b, hbe⟩ : ∃ b, a.add (h * 5) = b := ⟨_, rfl⟩
    obtain ⟨k1, hk1⟩ : ∃ k, l.length - h = k := ⟨_, rfl⟩
    obtain ⟨k2, hk2⟩ : ∃ k, c - h = k := ⟨_, rfl⟩
    rw [hbe, hk1, hk2] at hsl2 c2
    clear hbe hk1 hk2
    have HDZ := Lib.hid hdz
    have HWH := Lib.hid hwh
    clear hdz hwh
    have HR := Lib.hid hR
    have HB0 := Lib.hid hB
    have HD := Lib.hid (Below.refl W1.heap.size W1)
    have HSB := Lib.hid (fun (u1 u2 : World) (_ : Below u1.heap.size u1 u2) (_ : True) => trivial)
    clear ih hl hE hT hn hz hz1 hz2 hz3 E1 E2 O1 O2 hne1 hne2 hl1 hl2 hR hB hh hsz hc h0
    go_enter Tryz.func54, Tryz.ntmps54
    go_upto_region 1 with fail
    simp only [← hW1]
    clear hW1
    go_upto_region 4 with fail
    have hdz := HDZ.out
    have hwh := HWH.out
    simp only [hdz]

    have SD0 : True := trivial
    replace HD := Lib.hid (HD.out.trans (((Below.refl _ W1).drew).mono HD.out.size))
    refine wp_region_late (S := fun w' => True) (D := [12]) (by kernel_rfl) ?_
    refine anyL_take (i := 0) (oi := { dst := some 15, op := Go.Op.move (Go.Operand.tmp 1), type := 89, pos := "combine.go:52", after := #[], guard := none }) (v := ?_) rfl (by decide) (by kernel_rfl) (by kernel_rfl) (by kernel_rfl) (by kernel_rfl) (fun _ _ _ h => h) (Or.inl ⟨by rfl, ?_⟩) SD0 ?_
    rotate_left
    · intro wz hSz
      skip
      go_simp
      (try with_reducible rfl)
    try simp only [Act.put, List.setIfInBounds_toArray, List.set_cons_zero, List.set_cons_succ]
    refine anyL_take (i := 1) (oi := { dst := some 16, op := Go.Op.move (Go.Operand.tmp 0), type := 33, pos := "combine.go:52", after := #[], guard := none }) (v := ?_) rfl (by decide) (by kernel_rfl) (by kernel_rfl) (by kernel_rfl) (by kernel_rfl) (fun _ _ _ h => h) (Or.inl ⟨by rfl, ?_⟩) SD0 ?_
    rotate_left
    · intro wz hSz
      skip
      go_simp
      (try with_reducible rfl)
    try simp only [Act.put, List.setIfInBounds_toArray, List.set_cons_zero, List.set_cons_succ]
    refine anyL_take (i := 2) (oi := { dst := some 17, op := Go.Op.move (Go.Operand.tmp 5), type := 3, pos := "combine.go:52", after := #[], guard := none }) (v := ?_) rfl (by decide) (by kernel_rfl) (by kernel_rfl) (by kernel_rfl) (by kernel_rfl) (fun _ _ _ h => h) (Or.inl ⟨by rfl, ?_⟩) SD0 ?_
    rotate_left
    · intro wz hSz
      skip
      go_simp
      (try with_reducible rfl)
    try simp only [Act.put, List.setIfInBounds_toArray, List.set_cons_zero, List.set_cons_succ]
    refine anyL_take (i := 3) (oi := { dst := some 18, op := Go.Op.slice 33 (Go.Operand.tmp 16) none (some (Go.Operand.tmp 17)) none, type := 33, pos := "combine.go:52", after := #[{ on := 1, ground := Go.Ground.data }, { on := 2, ground := Go.Ground.data }], guard := none }) (v := ?_) rfl (by decide) (by kernel_rfl) (by kernel_rfl) (by kernel_rfl) (by kernel_rfl) (fun _ _ _ h => h) (Or.inl ⟨by rfl, ?_⟩) SD0 ?_
    rotate_left
    · intro wz hSz
      skip
      go_simp
      (try with_reducible rfl)
    try simp only [Act.put, List.setIfInBounds_toArray, List.set_cons_zero, List.set_cons_succ]
    refine anyL_take (i := 4) (oi := { dst := some 19, op := Go.Op.move (Go.Operand.tmp 1), type := 89, pos := "combine.go:52", after := #[], guard := none }) (v := ?_) rfl (by decide) (by kernel_rfl) (by kernel_rfl) (by kernel_rfl) (by kernel_rfl) (fun _ _ _ h => h) (Or.inl ⟨by rfl, ?_⟩) SD0 ?_
    rotate_left
    · intro wz hSz
      skip
      go_simp
      (try with_reducible rfl)
    try simp only [Act.put, List.setIfInBounds_toArray, List.set_cons_zero, List.set_cons_succ]
    refine anyL_take (i := 6) (oi := { dst := some 21, op := Go.Op.move (Go.Operand.tmp 0), type := 33, pos := "combine.go:52", after := #[], guard := none }) (v := ?_) rfl (by decide) (by kernel_rfl) (by kernel_rfl) (by kernel_rfl) (by kernel_rfl) (fun _ _ _ h => h) (Or.inl ⟨by rfl, ?_⟩) SD0 ?_
    rotate_left
    · intro wz hSz
      skip
      go_simp
      (try with_reducible rfl)
    try simp only [Act.put, List.setIfInBounds_toArray, List.set_cons_zero, List.set_cons_succ]
    refine anyL_take (i := 7) (oi := { dst := some 22, op := Go.Op.move (Go.Operand.tmp 5), type := 3, pos := "combine.go:52", after := #[], guard := none }) (v := ?_) rfl (by decide) (by kernel_rfl) (by kernel_rfl) (by kernel_rfl) (by kernel_rfl) (fun _ _ _ h => h) (Or.inl ⟨by rfl, ?_⟩) SD0 ?_
    rotate_left
    · intro wz hSz
      skip
      go_simp
      (try with_reducible rfl)
    try simp only [Act.put, List.setIfInBounds_toArray, List.set_cons_zero, List.set_cons_succ]
    refine anyL_take (i := 8) (oi := { dst := some 23, op := Go.Op.slice 33 (Go.Operand.tmp 21) (some (Go.Operand.tmp 22)) none none, type := 33, pos := "combine.go:52", after := #[{ on := 6, ground := Go.Ground.data }, { on := 7, ground := Go.Ground.data }], guard := none }) (v := ?_) rfl (by decide) (by kernel_rfl) (by kernel_rfl) (by kernel_rfl) (by kernel_rfl) (fun _ _ _ h => h) (Or.inl ⟨by rfl, ?_⟩) SD0 ?_
    rotate_left
    · intro wz hSz
      skip
      go_simp
      (try with_reducible rfl)
    try simp only [Act.put, List.setIfInBounds_toArray, List.set_cons_zero, List.set_cons_succ]
    refine anyL_take (i := 9) (oi := { dst := some 24, op := Go.Op.move (Go.Operand.tmp 1), type := 89, pos := "combine.go:52", after := #[], guard := none }) (v := ?_) rfl (by decide) (by kernel_rfl) (by kernel_rfl) (by kernel_rfl) (by kernel_rfl) (fun _ _ _ h => h) (Or.inl ⟨by rfl, ?_⟩) SD0 ?_
    rotate_left
    · intro wz hSz
      skip
      go_simp
      (try with_reducible rfl)
    try simp only [Act.put, List.setIfInBounds_toArray, List.set_cons_zero, List.set_cons_succ]
    refine anyL_ready (rs := [5]) (by kernel_rfl) (by simp) ?_
    refine AllL.cons (o := { dst := some 20, op := Go.Op.call { callee := Go.Callee.value (Go.Operand.func 54), args := #[Go.Operand.tmp 18, Go.Operand.tmp 19], argTypes := #[33, 89] }, type := 23, pos := "combine.go:52", after := #[{ on := 3, ground := Go.Ground.data }, { on := 4, ground := Go.Ground.data }], guard := none }) rfl (fun K' hK => ?_) AllL.nil
    rw [if_pos (by rfl)]
    go_simp
    go_at_call 54
    refine (c1 _ HD.out).mono ?_
    rintro e1 w1 ⟨rfl, b1⟩
    have S1 := HSB.out _ _ b1 SD0
    have HB1 := Lib.hid (HD.out.trans (b1.mono HD.out.size))
    refine hK _ _ S1 ?_
    clear hK K' b1 SD0
    try simp only [Act.put, List.setIfInBounds_toArray, List.set_cons_zero, List.set_cons_succ]
    refine anyL_ready (rs := [10]) (by kernel_rfl) (by simp) ?_
    refine AllL.cons (o := { dst := some 25, op := Go.Op.call { callee := Go.Callee.value (Go.Operand.func 54), args := #[Go.Operand.tmp 23, Go.Operand.tmp 24], argTypes := #[33, 89] }, type := 23, pos := "combine.go:52", after := #[{ on := 8, ground := Go.Ground.data }, { on := 9, ground := Go.Ground.data }, { on := 5, ground := Go.Ground.chain }], guard := none }) rfl (fun K' hK => ?_) AllL.nil
    rw [if_pos (by rfl)]
    go_simp
    go_at_call 54
    refine (c2 _ HB1.out).mono ?_
    rintro e2 w2 ⟨rfl, b2⟩
    have S2 := HSB.out _ _ b2 S1
    have HB2 := Lib.hid (HB1.out.trans (b2.mono HB1.out.size))
    refine hK _ _ S2 ?_
    clear hK K' b2 S1
    try simp only [Act.put, List.setIfInBounds_toArray, List.set_cons_zero, List.set_cons_succ]
    refine anyL_ready (rs := [11]) (by kernel_rfl) (by simp) ?_
    refine AllL.cons (o := { dst := some 26, op := Go.Op.call { callee := Go.Callee.value (Go.Operand.tmp 15), args := #[Go.Operand.tmp 20, Go.Operand.tmp 25], argTypes := #[23, 23] }, type := 23, pos := "combine.go:52", after := #[{ on := 0, ground := Go.Ground.data }, { on := 5, ground := Go.Ground.data }, { on := 10, ground := Go.Ground.data }, { on := 10, ground := Go.Ground.chain }], guard := none }) rfl (fun K' hK => ?_) AllL.nil
    rw [if_pos (by rfl)]
    go_simp
    go_at_call 55
    refine (c3 _ HB2.out).mono ?_
    rintro e3 w3 ⟨rfl, b3⟩
    have S3 := HSB.out _ _ b3 S2
    have HB3 := Lib.hid (HB2.out.trans (b3.mono HB2.out.size))
    refine hK _ _ S3 ?_
    clear hK K' b3 S2
    try simp only [Act.put, List.setIfInBounds_toArray, List.set_cons_zero, List.set_cons_succ]
    refine anyL_ready (rs := [12]) (by kernel_rfl) (by simp) ?_
    have hM := HR.out.more HB3.out
    have r0 := hM.cell 0
    have r1 := hM.cell 1
    have r2 := hM.cell 2
    have r3 := hM.cell 3
    have r4 := hM.cell 4
    simp only [List.getElem?_toArray, List.getElem?_cons_zero, List.getElem?_cons_succ] at r0 r1 r2 r3 r4
    have t0 := hM.fr 0
    have t1 := hM.fr 1
    have t2 := hM.fr 2
    have t3 := hM.fr 3
    have t4 := hM.fr 4
    refine AllL.last (o := { dst := none, op := Go.Op.store 23 (Go.Operand.tmp 4) (Go.Operand.tmp 26), type := 0, pos := "combine.go:52", after := #[{ on := 11, ground := Go.Ground.data }, { on := 11, ground := Go.Ground.chain }, { on := 0, ground := Go.Ground.phase }, { on := 1, ground := Go.Ground.phase }, { on := 2, ground := Go.Ground.phase }, { on := 3, ground := Go.Ground.phase }, { on := 4, ground := Go.Ground.phase }, { on := 5, ground := Go.Ground.phase }, { on := 6, ground := Go.Ground.phase }, { on := 7, ground := Go.Ground.phase }, { on := 8, ground := Go.Ground.phase }, { on := 9, ground := Go.Ground.phase }, { on := 10, ground := Go.Ground.phase }, { on := 11, ground := Go.Ground.phase }], guard := none }) rfl (by decide) (fun K' hK => ?_)
    rw [if_pos (by rfl)]
    go_simp
    refine hK _ _ ?_
    clear hK K'
    try simp only [Act.put, List.setIfInBounds_toArray, List.set_cons_zero, List.set_cons_succ]
    refine anyL_done (by kernel_rfl) ?_ _
    go_wp2
    exact bodyPost_ret (v := .agg #[.string z.id, .string z.title, .string z.link, .string z.content, .int .i64 z.upd]) (by simp [results, Tryz.results54, go_sem, mset_same, r0, r1, r2, r3, r4]) rfl ⟨rfl, nm_below5 (HB0.out.trans (HB3.out.mono HB0.out.size)) (Nat.le_refl _) _ _ _ _ _⟩
end Go.Proofs.YtbfalppeifkjdaaGreatDoor
end
