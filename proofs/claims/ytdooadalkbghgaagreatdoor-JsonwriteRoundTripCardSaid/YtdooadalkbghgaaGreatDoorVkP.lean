/- Packed from the texts JpO JpP. -/
import Derived.Test.YtdooadalkbghgaaGreatDoorVJpM
import Derived.Defers
import Derived.Recover
import Derived.Laws.Pointers
import Derived.Tactics2
section
namespace Go.Proofs.YtdooadalkbghgaaGreatDoor
open Go.RowKit
def tA (l : List UInt8) : Ares := match vA l (if [239, 187, 191].isPrefixOf l = true then 3 else 0) 1 with
  | .err a e => .err a e
  | .ok v j => if spP l j < l.length then .err (spP l j : Nat) 17 else .ok v l.length
def OutT (w0 : World) (e : Ending) (w' : World) : Ares → Prop
  | .err a x => e = fltE a x ∧ Below w0.heap.size w0 w'
  | .ok v _ => (∃ x, e = .returned x ∧ ValIs (sans w' (low w0.heap.size)) v x) ∧ Below w0.heap.size w0 w'
theorem below_low {w0 w w' : World} {v : ValD} {x : Value} {n : Nat} (h : ValIs (sans w (low n)) v x) (hn : w0.heap.size ≤ n) (hs : ∀ k, k < w.heap.size → n ≤ k → w'.heap[k]? = w.heap[k]?) : ValIs (sans w' (low w0.heap.size)) v x :=
  h.go (fun k hk hno => by have := low_no hno; exact ⟨low_ok (by omega), hs k hk this⟩)
set_option maxRecDepth 100000 in
set_option maxHeartbeats 64000000 in
theorem jp_text (w0 : World) (b : Nat) (s : ByteArray) (hs : s.size ≤ 1000000) (hT : TabV w0) (hb : w0.heap.size ≤ b) (w : World) (hP : Psr w b s 0) (hw : Below w0.heap.size w0 w) :
    Calls Tryz.prog 24 #[.pointer (some ⟨b, 0, none⟩)] w fun e w' => OutT w0 e w' (tA s.data.toList) := by
  have hsl : s.data.toList.length = s.size := by simp
  have hbw := hP.lt
  have hwz := hw.size
  have b0 : Below w.heap.size w (w.alloc (.cells #[.int .i64 0, .bool false, .int .i64 0, .string ⟨#[]⟩, .slice none 0 0, .slice none 0 0, .int .i64 0] 25)) := (Below.refl _ _).alloc (Nat.le_refl _) _
  have PZ : Psr (w.alloc (.cells #[.int .i64 0, .bool false, .int .i64 0, .string ⟨#[]⟩, .slice none 0 0, .slice none 0 0, .int .i64 0] 25)) b s 0 := hP.more b0
  have cV : ∀ (i : Nat) (wx : World), i ≤ s.size → Psr wx b s i → Below w0.heap.size w0 wx → _ := fun i wx h1 h2 h3 => jp_value w0 b s hs hT hb (s.size - i) i 1 wx h1 (Nat.le_refl _) (by omega) h2 h3
  obtain ⟨i, hi, hiz, cW⟩ : ∃ i : Nat, (if ([239, 187, 191] : List UInt8).isPrefixOf s.data.toList = true then 3 else 0) = i ∧ i ≤ s.size ∧ Calls Tryz.prog 39 #[.pointer (some ⟨b, 0, none⟩), .string ⟨#[239, 187, 191]⟩] (w.alloc (.cells #[.int .i64 0, .bool false, .int .i64 0, .string ⟨#[]⟩, .slice none 0 0, .slice none 0 0, .int .i64 0] 25)) fun e w' => (∃ B, e = .returned (.bool B)) ∧ Psr w' b s i ∧ Pb b (w.alloc (.cells #[.int .i64 0, .bool false, .int .i64 0, .string ⟨#[]⟩, .slice none 0 0, .slice none 0 0, .int .i64 0] 25)) w' := by
    rcases hpre : ([239, 187, 191] : List UInt8).isPrefixOf s.data.toList with _ | _
    · exact ⟨0, by rw [if_neg (by decide)], Nat.zero_le _, (jp_word_no b s ⟨#[239, 187, 191]⟩ 0 _ PZ (Nat.zero_le _) (by rw [List.drop_zero]; exact hpre)).mono fun e w' ⟨h1, h2, h3⟩ => ⟨⟨_, h1⟩, h2, Pj.of h3⟩⟩
    · have := (List.isPrefixOf_iff_prefix.1 hpre).length_le
      rw [hsl] at this
      exact ⟨3, by rw [if_pos rfl], this, (jp_word_yes b s ⟨#[239, 187, 191]⟩ 0 _ PZ (Nat.zero_le _) hs (by decide) (by rw [List.drop_zero]; exact hpre)).mono fun e w' ⟨h1, h2, h3⟩ => ⟨⟨_, h1⟩, h2, h3⟩⟩
  have hta : tA s.data.toList = match vA s.data.toList i 1 with
    | .err a e => .err a e
    | .ok v j => if spP s.data.toList j < s.data.toList.length then .err (spP s.data.toList j : Nat) 17 else .ok v s.data.toList.length := by
    unfold tA
    rw [hi]
  rw [hta, hsl]
  clear hta hi
  have HW := Lib.hid hw
  have HB0 := Lib.hid b0
  clear PZ hw b0
  cases hv : vA s.data.toList i 1 with
  | err a x =>
    dsimp only
    go_enter Tryz.func24, Tryz.ntmps24
    go_wp2_with fail
    refine cW.mono ?_
    rintro e w1 ⟨⟨B, rfl⟩, P1, K1⟩
    have k1 : Pb b w w1 := (Pj.of HB0.out).trans K1 (fun _ _ y => y)
    have cX := cV i w1 hiz P1 (pb_below HW.out k1 hb)
    rw [hv] at cX
    simp only [OutV] at cX
    clear P1 K1 k1
    go_wp2_with fail
    refine cX.mono ?_
    rintro e w2 ⟨rfl, hB⟩
    go_wp2
    exact ⟨rfl, rfl, hB⟩
  | ok v j =>
    dsimp only
    have hend := vA_end (by rw [hsl]; exact hiz) hv
    rw [hsl] at hend
    have hsj := spP_le s.data.toList j (by rw [hsl]; exact hend.2)
    rw [hsl] at hsj
    obtain ⟨u, hu⟩ : ∃ u, spP s.data.toList j = u := ⟨_, rfl⟩
    rw [hu] at hsj ⊢
    have HU := Lib.hid hu
    clear hu
    have cF : ∀ wx, _ := fun wx => jp_fail (u : Int) 17 wx
    by_cases hlt : u < s.size
    · rw [if_pos hlt]
      have hltz : (u : Int) < (s.size : Int) := by omega
      go_enter Tryz.func24, Tryz.ntmps24
      go_wp2_with fail
      refine cW.mono ?_
      rintro e w1 ⟨⟨B, rfl⟩, P1, K1⟩
      have k1 : Pb b w w1 := (Pj.of HB0.out).trans K1 (fun _ _ y => y)
      have cX := cV i w1 hiz P1 (pb_below HW.out k1 hb)
      rw [hv] at cX
      simp only [OutV] at cX
      have HK1 := Lib.hid k1
      clear P1 K1 k1
      go_wp2_with fail
      refine cX.mono ?_
      rintro e w2 ⟨⟨x, rfl, hx⟩, P2, K2⟩
      obtain ⟨p1, c1, q1, d1, rfl, -, -⟩ := (val_is _ v x).1 hx
      have b2 : ∀ cs, Below w2.heap.size w2 (w2.alloc (.cells cs 25)) := fun cs => (Below.refl _ _).alloc (Nat.le_refl _) _
      have cS := jp_skipSpace b s j (w2.alloc (.cells #[.int .i64 v.kind, .bool v.b, .int .i64 v.n, .string v.s, .slice p1 v.items.length c1, .slice q1 v.mems.length d1, .int .i64 v.at'] 25)) (P2.more (b2 _)) hend.2 hs
      rw [HU.out] at cS
      have HL := Lib.hid (pb_below HW.out ((HK1.out.trans' K2).more (b2 #[.int .i64 v.kind, .bool v.b, .int .i64 v.n, .string v.s, .slice p1 v.items.length c1, .slice q1 v.mems.length d1, .int .i64 v.at'])) hb)
      clear P2 K2 hx b2
      go_wp2_with fail
      refine cS.mono ?_
      rintro e w3 ⟨rfl, P3, K3⟩
      have c30 := P3.c0
      have c31 := P3.c1
      have HL3 := Lib.hid (pb_below HL.out K3 hb)
      clear P3 K3
      go_wp2
      go_quiet (fail)
      go_wp2_with fail
      refine (cF _).mono ?_
      rintro e w4 ⟨rfl, rfl⟩
      go_wp2
      exact ⟨rfl, rfl, jbelowN HL3.out _⟩
    · rw [if_neg hlt]
      have hltz : ¬ (u : Int) < (s.size : Int) := by omega
      go_enter Tryz.func24, Tryz.ntmps24
      go_wp2_with fail
      refine cW.mono ?_
      rintro e w1 ⟨⟨B, rfl⟩, P1, K1⟩
      have k1 : Pb b w w1 := (Pj.of HB0.out).trans K1 (fun _ _ y => y)
      have hR1 : Bj w1 w.heap.size #[.int .i64 0, .bool false, .int .i64 0, .string ⟨#[]⟩, .slice none 0 0, .slice none 0 0, .int .i64 0] 25 := Pj.blk K1 (Bj.new w _ _) (by omega)
      have cX := cV i w1 hiz P1 (pb_below HW.out k1 hb)
      rw [hv] at cX
      simp only [OutV] at cX
      have HK1 := Lib.hid k1
      have hz1 := hR1.lt
      clear P1 K1 k1
      go_wp2_with fail
      refine cX.mono ?_
      rintro e w2 ⟨⟨x, rfl, hx⟩, P2, K2⟩
      obtain ⟨p1, c1, q1, d1, rfl, -, -⟩ := (val_is _ v x).1 hx
      have b2 : ∀ cs, Below w2.heap.size w2 (w2.alloc (.cells cs 25)) := fun cs => (Below.refl _ _).alloc (Nat.le_refl _) _
      have cS := jp_skipSpace b s j (w2.alloc (.cells #[.int .i64 v.kind, .bool v.b, .int .i64 v.n, .string v.s, .slice p1 v.items.length c1, .slice q1 v.mems.length d1, .int .i64 v.at'] 25)) (P2.more (b2 _)) hend.2 hs
      rw [HU.out] at cS
      have HL := Lib.hid (pb_below HW.out ((HK1.out.trans' K2).more (b2 #[.int .i64 v.kind, .bool v.b, .int .i64 v.n, .string v.s, .slice p1 v.items.length c1, .slice q1 v.mems.length d1, .int .i64 v.at'])) hb)
      have hz2 := K2.size
      have hR2 : Bj (w2.alloc (.cells #[.int .i64 v.kind, .bool v.b, .int .i64 v.n, .string v.s, .slice p1 v.items.length c1, .slice q1 v.mems.length d1, .int .i64 v.at'] 25)) w.heap.size _ _ := (Pj.blk K2 hR1 (by omega)).more (b2 _)
      have hV2 : Bj (w2.alloc (.cells #[.int .i64 v.kind, .bool v.b, .int .i64 v.n, .string v.s, .slice p1 v.items.length c1, .slice q1 v.mems.length d1, .int .i64 v.at'] 25)) w2.heap.size _ _ := Bj.new w2 _ _
      have HX := Lib.hid hx
      clear P2 K2 hx hR1
      go_wp2_with fail
      refine cS.mono ?_
      rintro e w3 ⟨rfl, P3, K3⟩
      have c30 := P3.c0
      have c31 := P3.c1
      have HL3 := Lib.hid (pb_below HL.out K3 hb)
      have hR3 := Pj.blk K3 hR2 (by omega)
      have hV3 := Pj.blk K3 hV2 (by omega)
      have hz3 := K3.size
      rw [World.size_alloc] at hz3
      have HS3 := Lib.hid (show ∀ k, k < w2.heap.size → w1.heap.size ≤ k → w3.heap[k]? = w2.heap[k]? from fun k hk hn => (K3.block k (by rw [World.size_alloc]; omega) (by omega)).trans (heap_alloc_old w2 _ hk))
      clear P3 K3 hR2 hV2
      go_wp2
      go_quiet (fail)
      have hR4 : Bj (w3.drewN nq) w.heap.size #[.int .i64 0, .bool false, .int .i64 0, .string ⟨#[]⟩, .slice none 0 0, .slice none 0 0, .int .i64 0] 25 := hR3
      have hV4 : Bj (w3.drewN nq) w2.heap.size #[.int .i64 v.kind, .bool v.b, .int .i64 v.n, .string v.s, .slice p1 v.items.length c1, .slice q1 v.mems.length d1, .int .i64 v.at'] 25 := hV3
      have HS4 := Lib.hid (show ∀ k, k < w2.heap.size → w1.heap.size ≤ k → (w3.drewN nq).heap[k]? = w2.heap[k]? from HS3.out)
      have HL4 := Lib.hid (jbelowN HL3.out nq)
      clear hR3 hV3 HS3 HL3 c30 c31
      generalize w3.drewN nq = w4 at *
      obtain ⟨⟨x0, x1, x2, x3, x4, x5, x6⟩, k0, k1, k2, k3, k4, k5, k6⟩ := hR4.seven
      obtain ⟨⟨r0, r1, r2, r3, r4, r5, r6⟩, -⟩ := hV4.seven
      clear hR4 hV4
      go_wp2
      refine bodyPost_ret (v := .agg #[.int .i64 v.kind, .bool v.b, .int .i64 v.n, .string v.s, .slice p1 v.items.length c1, .slice q1 v.mems.length d1, .int .i64 v.at']) (by simp [results, Tryz.results24, go_sem, jset_same, x0, x1, x2, x3, x4, x5, x6]) rfl ⟨⟨_, rfl, below_low HX.out (by omega) (fun k hk hn => ?_)⟩, ?_⟩
      · have hne : k ≠ w.heap.size := by omega
        rw [Below.heap_setCell _ _ _ _ hne, Below.heap_setCell _ _ _ _ hne, Below.heap_setCell _ _ _ _ hne, Below.heap_setCell _ _ _ _ hne, Below.heap_setCell _ _ _ _ hne, Below.heap_setCell _ _ _ _ hne, Below.heap_setCell _ _ _ _ hne]
        exact HS4.out k hk hn
      · exact ((((((HL4.out.setCell (p := ⟨w.heap.size, 0, none⟩) hwz _).setCell (p := ⟨w.heap.size, 1, none⟩) hwz _).setCell (p := ⟨w.heap.size, 2, none⟩) hwz _).setCell (p := ⟨w.heap.size, 3, none⟩) hwz _).setCell (p := ⟨w.heap.size, 4, none⟩) hwz _).setCell (p := ⟨w.heap.size, 5, none⟩) hwz _).setCell (p := ⟨w.heap.size, 6, none⟩) hwz _
end Go.Proofs.YtdooadalkbghgaaGreatDoor
end
section
namespace Go.Proofs.YtdooadalkbghgaaGreatDoor
open Go.RowKit
theorem jcatch_idle (p q r : Addr) (w : World) :
    CallsD Tryz.prog 23 #[.pointer (some p), .pointer (some q), .pointer (some r)] .returning w fun e u' w' => e = .returned (.tuple #[]) ∧ u' = .returning ∧ w' = w := by
  refine callsD_of_wpS Tryz.func23 rfl fun c₀ cs hu => ?_
  apply wpS_seq
  apply wpS_region
  simp [wpOpsS, go_sem, recoverD, hu, Tryz.ntmps23, Exit.thenS]
  refine wpS_of_wp ?_
  go_wp2
  cases c₀
  simp_all [bodyPostS, results, Tryz.results23]
theorem jassert (a x : Int) (w : World) : (Instr.typeAssert (fltV a x) 20 55 false).run Tryz.prog w = .ok (.agg #[.int .i64 a, .int .i64 x]) w := by kernel_rfl
set_option maxRecDepth 100000 in
set_option maxHeartbeats 16000000 in
theorem jcatch_panicking (n : Nat) (a x : Int) (older : List PanicEntry) (w : World) (h0 : Bj w n #[.int .i64 0, .bool false, .int .i64 0, .string ⟨#[]⟩, .slice none 0 0, .slice none 0 0, .int .i64 0] 25) (h1 : Bj w (n + 1) #[.int .i64 0] 3) (h2 : Bj w (n + 2) #[.int .i64 0] 28) :
    CallsD Tryz.prog 23 #[.pointer (some ⟨n, 0, none⟩), .pointer (some ⟨n + 1, 0, none⟩), .pointer (some ⟨n + 2, 0, none⟩)] (.panicking ({ v := fltV a x, recovered := false } :: older)) w fun e u' w' =>
      e = .returned (.tuple #[]) ∧ u' = .panicking ({ v := fltV a x, recovered := true } :: older) ∧ Bj w' n #[.int .i64 0, .bool false, .int .i64 0, .string ⟨#[]⟩, .slice none 0 0, .slice none 0 0, .int .i64 0] 25 ∧ Bj w' (n + 1) #[.int .i64 a] 3 ∧ Bj w' (n + 2) #[.int .i64 x] 28 ∧ Pj (fun k => k = n ∨ k = n + 1 ∨ k = n + 2) w w' := by
  refine callsD_of_wpS Tryz.func23 rfl fun c₀ cs hu => ?_
  apply wpS_seq
  apply wpS_region
  simp [wpOpsS, go_sem, recoverD, hu, Tryz.ntmps23, Exit.thenS]
  refine wpS_of_wp ?_
  rw [show (Array.replicate 12 undef : Array Value) = #[undef, undef, undef, undef, undef, undef, undef, undef, undef, undef, undef, undef] from rfl]
  simp only [List.append_toArray, List.cons_append, List.nil_append, List.setIfInBounds_toArray, List.set_cons_zero, List.set_cons_succ]
  have hta := jassert a x
  have hl2 := h2.lt
  go_wp2
  obtain ⟨W, hW⟩ : ∃ W, W = w.alloc (.cells #[.int .i64 a, .int .i64 x] 55) := ⟨_, rfl⟩
  simp only [← hW]
  have hF0 : W.cell? ⟨w.heap.size, 0, none⟩ = some (.int .i64 a) := by rw [hW]; exact (Bj.new w _ _).cell 0
  have hF1 : W.cell? ⟨w.heap.size, 1, none⟩ = some (.int .i64 x) := by rw [hW]; exact (Bj.new w _ _).cell 1
  have bW : Below w.heap.size w W := by rw [hW]; exact (Below.refl _ _).alloc (Nat.le_refl _) _
  have Hx0 := Lib.hid (h0.more bW)
  have Hx1 := Lib.hid (h1.more bW)
  have Hx2 := Lib.hid (h2.more bW)
  have Hbb := Lib.hid bW
  obtain ⟨⟨x0, x1, x2, x3, x4, x5, x6⟩, k0, k1, k2, k3, k4, k5, k6⟩ := Hx0.out.seven
  have y1 : W.cell? ⟨n + 1, 0, none⟩ = some (.int .i64 0) := Hx1.out.cell 0
  have z1 := Hx1.out.fr 0
  have y2 : W.cell? ⟨n + 2, 0, none⟩ = some (.int .i64 0) := Hx2.out.cell 0
  have z2 := Hx2.out.fr 0
  obtain ⟨F, hF⟩ : ∃ F, w.heap.size = F := ⟨_, rfl⟩
  rw [hF] at hF0 hF1 hl2
  rw [hF]
  have hn0 : ¬ n = F := by omega
  have hn1 : ¬ n + 1 = F := by omega
  have hn2 : ¬ n + 2 = F := by omega
  have hn3 : ¬ F = n := by omega
  have hn4 : ¬ F = n + 1 := by omega
  have hn5 : ¬ F = n + 2 := by omega
  have Hff := Lib.hid hF
  clear hW bW h0 h1 h2 hF

  go_region
  obtain ⟨W9, hW9⟩ : ∃ W9, W9 = (((((((((W.setCell ⟨n, 0, none⟩ (.int .i64 0)).setCell ⟨n, 1, none⟩ (.bool false)).setCell ⟨n, 2, none⟩ (.int .i64 0)).setCell ⟨n, 3, none⟩ (.string ⟨#[]⟩)).setCell ⟨n, 4, none⟩ (.slice none 0 0)).setCell ⟨n, 5, none⟩ (.slice none 0 0)).setCell ⟨n, 6, none⟩ (.int .i64 0)).setCell ⟨n + 1, 0, none⟩ (.int .i64 a)).setCell ⟨n + 2, 0, none⟩ (.int .i64 x)) := ⟨_, rfl⟩
  have w0 : Bj W9 n #[.int .i64 0, .bool false, .int .i64 0, .string ⟨#[]⟩, .slice none 0 0, .slice none 0 0, .int .i64 0] 25 := by rw [hW9]; exact ((((((((Hx0.out.set 0 (.int .i64 0)).set 1 (.bool false)).set 2 (.int .i64 0)).set 3 (.string ⟨#[]⟩)).set 4 (.slice none 0 0)).set 5 (.slice none 0 0)).set 6 (.int .i64 0)).own (q := ⟨n + 1, 0, none⟩) (by show n + 1 ≠ n; omega) (.int .i64 a)).own (q := ⟨n + 2, 0, none⟩) (by show n + 2 ≠ n; omega) (.int .i64 x)
  have w1 : Bj W9 (n + 1) #[.int .i64 a] 3 := by rw [hW9]; exact ((((((((Hx1.out.own (q := ⟨n, 0, none⟩) (by show n ≠ n + 1; omega) (.int .i64 0)).own (q := ⟨n, 1, none⟩) (by show n ≠ n + 1; omega) (.bool false)).own (q := ⟨n, 2, none⟩) (by show n ≠ n + 1; omega) (.int .i64 0)).own (q := ⟨n, 3, none⟩) (by show n ≠ n + 1; omega) (.string ⟨#[]⟩)).own (q := ⟨n, 4, none⟩) (by show n ≠ n + 1; omega) (.slice none 0 0)).own (q := ⟨n, 5, none⟩) (by show n ≠ n + 1; omega) (.slice none 0 0)).own (q := ⟨n, 6, none⟩) (by show n ≠ n + 1; omega) (.int .i64 0)).set 0 (.int .i64 a)).own (q := ⟨n + 2, 0, none⟩) (by show n + 2 ≠ n + 1; omega) (.int .i64 x)
  have w2 : Bj W9 (n + 2) #[.int .i64 x] 28 := by rw [hW9]; exact ((((((((Hx2.out.own (q := ⟨n, 0, none⟩) (by show n ≠ n + 2; omega) (.int .i64 0)).own (q := ⟨n, 1, none⟩) (by show n ≠ n + 2; omega) (.bool false)).own (q := ⟨n, 2, none⟩) (by show n ≠ n + 2; omega) (.int .i64 0)).own (q := ⟨n, 3, none⟩) (by show n ≠ n + 2; omega) (.string ⟨#[]⟩)).own (q := ⟨n, 4, none⟩) (by show n ≠ n + 2; omega) (.slice none 0 0)).own (q := ⟨n, 5, none⟩) (by show n ≠ n + 2; omega) (.slice none 0 0)).own (q := ⟨n, 6, none⟩) (by show n ≠ n + 2; omega) (.int .i64 0)).own (q := ⟨n + 1, 0, none⟩) (by show n + 1 ≠ n + 2; omega) (.int .i64 a)).set 0 (.int .i64 x)
  have w3 : Pj (fun k => k = n ∨ k = n + 1 ∨ k = n + 2) w W9.drew := by rw [hW9]; exact ((((((((((Pj.of Hbb.out : Pj (fun k => k = n ∨ k = n + 1 ∨ k = n + 2) w W).set (q := ⟨n, 0, none⟩) (.inl (.inl rfl)) (.int .i64 0)).set (q := ⟨n, 1, none⟩) (.inl (.inl rfl)) (.bool false)).set (q := ⟨n, 2, none⟩) (.inl (.inl rfl)) (.int .i64 0)).set (q := ⟨n, 3, none⟩) (.inl (.inl rfl)) (.string ⟨#[]⟩)).set (q := ⟨n, 4, none⟩) (.inl (.inl rfl)) (.slice none 0 0)).set (q := ⟨n, 5, none⟩) (.inl (.inl rfl)) (.slice none 0 0)).set (q := ⟨n, 6, none⟩) (.inl (.inl rfl)) (.int .i64 0)).set (q := ⟨n + 1, 0, none⟩) (.inl (.inr (.inl rfl))) (.int .i64 a)).set (q := ⟨n + 2, 0, none⟩) (.inl (.inr (.inr rfl))) (.int .i64 x)).drew
  rw [← hW9]
  clear hW9
  exact ⟨rfl, _, rfl, _, results_none rfl _ _ _, rfl, rfl, w0, w1, w2, w3⟩
def zeroVal : ValD := .mk 0 false 0 ⟨#[]⟩ [] [] 0
def parR (l : List UInt8) : ValD × Int × Int := match tA l with
  | .err a e => (zeroVal, a, e)
  | .ok v _ => (v, l.length, 0)
set_option maxRecDepth 100000 in
set_option maxHeartbeats 16000000 in
theorem jp_Parse (s : ByteArray) (w : World) (hs : s.size ≤ 1000000) (hT : TabV w) :
    Calls Tryz.prog 8 #[.string s] w fun e w' => (∃ x, e = .returned (.tuple #[x, .int .i64 (parR s.data.toList).2.1, .int .i64 (parR s.data.toList).2.2]) ∧ ValIs w' (parR s.data.toList).1 x) ∧ Below w.heap.size w w' := by
  have hmf : ∀ (fn : Fn) (first cap : Array Value) (w : World), (Instr.makeFunc fn first cap).run Tryz.prog w = .ok (.func fn first cap) w := fun _ _ _ _ => rfl
  have hsl : s.data.toList.length = s.size := by simp
  obtain ⟨W3, hW3⟩ : ∃ W3, W3 = ((w.alloc (.cells #[.int .i64 0, .bool false, .int .i64 0, .string ⟨#[]⟩, .slice none 0 0, .slice none 0 0, .int .i64 0] 25)).alloc (.cells #[.int .i64 0] 3)).alloc (.cells #[.int .i64 0] 28) := ⟨_, rfl⟩
  obtain ⟨W4, hW4⟩ : ∃ W4, W4 = (((w.alloc (.cells #[.int .i64 0, .bool false, .int .i64 0, .string ⟨#[]⟩, .slice none 0 0, .slice none 0 0, .int .i64 0] 25)).alloc (.cells #[.int .i64 0] 3)).alloc (.cells #[.int .i64 0] 28)).alloc (.cells #[.string s, .int .i64 0] 57) := ⟨_, rfl⟩
  have hz3 : W3.heap.size = w.heap.size + 3 := by rw [hW3]; simp
  have b3 : Below w.heap.size w W3 := by rw [hW3]; exact (((Below.refl _ _).alloc (Nat.le_refl _) _).alloc (by simp) _).alloc (by simp; omega) _
  have b4 : Below W3.heap.size W3 W4 := by rw [hW4, ← hW3]; exact (Below.refl _ _).alloc (Nat.le_refl _) _
  have P4 : Psr W4 (w.heap.size + 1 + 1 + 1) s 0 := by
    have := Bj.new W3 #[.string s, .int .i64 0] 57
    rw [hz3] at this
    rw [hW4, ← hW3]
    exact this
  have r0 : Bj W3 w.heap.size #[.int .i64 0, .bool false, .int .i64 0, .string ⟨#[]⟩, .slice none 0 0, .slice none 0 0, .int .i64 0] 25 := by rw [hW3]; exact (Bj.first w _ _ _).more ((Below.refl _ _).alloc (Nat.le_refl _) _)
  have r1 : Bj W3 (w.heap.size + 1) #[.int .i64 0] 3 := by rw [hW3]; exact (Bj.second w _ _ _).more ((Below.refl _ _).alloc (Nat.le_refl _) _)
  have r2 : Bj W3 (w.heap.size + 1 + 1) #[.int .i64 0] 28 := by
    rw [hW3]
    have := Bj.new ((w.alloc (.cells #[.int .i64 0, .bool false, .int .i64 0, .string ⟨#[]⟩, .slice none 0 0, .slice none 0 0, .int .i64 0] 25)).alloc (.cells #[.int .i64 0] 3)) #[.int .i64 0] 28
    simpa using this
  have cT' := jp_text W3 (w.heap.size + 1 + 1 + 1) s hs (TabV_below hT b3) (by omega) W4 P4 b4
  have cT := fun (wx : World) (hx : wx = W4) => (show Calls Tryz.prog 24 _ wx _ from hx ▸ cT')
  unfold parR
  have Hr0 := Lib.hid r0
  have Hr1 := Lib.hid r1
  have Hr2 := Lib.hid r2
  have Hb3 := Lib.hid b3
  clear cT' P4 b4 hW3 r0 r1 r2 b3 hT
  cases hta : tA s.data.toList with
  | err a x =>
    dsimp only
    rw [hta] at cT
    simp only [OutT] at cT
    clear hta
    go_enter_defers Tryz.func8, Tryz.ntmps8
    go_wp2_with fail
    refine (cT _ hW4.symm).mono ?_
    rintro e w5 ⟨rfl, hB⟩
    have s0 := Hr0.out.more hB
    have s1 := Hr1.out.more hB
    have s2 := Hr2.out.more hB
    have Hbb := Lib.hid (Hb3.out.trans (hB.mono (by omega)))
    clear hB
    go_wp2
    refine leaves_cons (f := 23) (args := #[.pointer (some ⟨w.heap.size, 0, none⟩), .pointer (some ⟨w.heap.size + 1, 0, none⟩), .pointer (some ⟨w.heap.size + 1 + 1, 0, none⟩)]) (by simp) (by simp [go_sem]) ?_
    refine (jcatch_panicking w.heap.size a x [] w5 s0 s1 s2).mono ?_
    rintro e u' w6 ⟨rfl, rfl, t0, t1, t2, k6⟩
    have h6 : Below w.heap.size w w6 := k6.below Hbb.out (fun k hk => by omega) Hbb.out.size
    obtain ⟨⟨x0, x1, x2, x3, x4, x5, x6⟩, -⟩ := t0.seven
    have y1 : w6.cell? ⟨w.heap.size + 1, 0, none⟩ = some (.int .i64 a) := t1.cell 0
    have y2 : w6.cell? ⟨w.heap.size + 1 + 1, 0, none⟩ = some (.int .i64 x) := t2.cell 0
    have hV : ValIs w6 zeroVal (.agg #[.int .i64 0, .bool false, .int .i64 0, .string ⟨#[]⟩, .slice none 0 0, .slice none 0 0, .int .i64 0]) := ValIs_leaf _ _ _ _ _ _
    simp [Leaves, settle, results, Tryz.results8, go_sem, x0, x1, x2, x3, x4, x5, x6, y1, y2]
    exact ⟨hV, h6⟩
  | ok v j =>
    dsimp only
    rw [hta] at cT
    simp only [OutT] at cT
    rw [hsl]
    clear hta
    go_enter_defers Tryz.func8, Tryz.ntmps8
    go_wp2_with fail
    refine (cT _ hW4.symm).mono ?_
    rintro e w5 ⟨⟨x, rfl, hx⟩, hB⟩
    obtain ⟨p1, c1, q1, d1, rfl, -, -⟩ := (val_is _ v x).1 hx
    have s0 := Hr0.out.more hB
    have s1 := Hr1.out.more hB
    have s2 := Hr2.out.more hB
    have Hbb := Lib.hid (Hb3.out.trans (hB.mono (by omega)))
    have Hx5 := Lib.hid hx
    obtain ⟨⟨x0, x1, x2, x3, x4, x5, x6⟩, k0, k1, k2, k3, k4, k5, k6⟩ := s0.seven
    have y1 : w5.cell? ⟨w.heap.size + 1, 0, none⟩ = some (.int .i64 0) := s1.cell 0
    have z1 := s1.fr 0
    have y2 : w5.cell? ⟨w.heap.size + 1 + 1, 0, none⟩ = some (.int .i64 0) := s2.cell 0
    have z2 := s2.fr 0
    have Hs0 := Lib.hid s0
    have Hs1 := Lib.hid s1
    have Hs2 := Lib.hid s2
    clear hB hx s0 s1 s2
    go_wp2
    refine leaves_cons (f := 23) (args := #[.pointer (some ⟨w.heap.size, 0, none⟩), .pointer (some ⟨w.heap.size + 1, 0, none⟩), .pointer (some ⟨w.heap.size + 1 + 1, 0, none⟩)]) (by simp) (by simp [go_sem]) ?_
    refine (jcatch_idle _ _ _ _).mono ?_
    rintro e u' w6 ⟨rfl, rfl, rfl⟩
    obtain ⟨W9, hW9⟩ : ∃ W9, W9 = (((((((((w5.setCell ⟨w.heap.size, 0, none⟩ (.int .i64 v.kind)).setCell ⟨w.heap.size, 1, none⟩ (.bool v.b)).setCell ⟨w.heap.size, 2, none⟩ (.int .i64 v.n)).setCell ⟨w.heap.size, 3, none⟩ (.string v.s)).setCell ⟨w.heap.size, 4, none⟩ (.slice p1 v.items.length c1)).setCell ⟨w.heap.size, 5, none⟩ (.slice q1 v.mems.length d1)).setCell ⟨w.heap.size, 6, none⟩ (.int .i64 v.at')).setCell ⟨w.heap.size + 1, 0, none⟩ (.int .i64 (s.size : Int))).setCell ⟨w.heap.size + 1 + 1, 0, none⟩ (.int .i64 0)) := ⟨_, rfl⟩
    rw [← hW9]
    have t0 : Bj W9 w.heap.size #[.int .i64 v.kind, .bool v.b, .int .i64 v.n, .string v.s, .slice p1 v.items.length c1, .slice q1 v.mems.length d1, .int .i64 v.at'] 25 := by rw [hW9]; exact (((((((((Hs0.out.set 0 (.int .i64 v.kind)).set 1 (.bool v.b)).set 2 (.int .i64 v.n)).set 3 (.string v.s)).set 4 (.slice p1 v.items.length c1)).set 5 (.slice q1 v.mems.length d1)).set 6 (.int .i64 v.at')).own (q := ⟨w.heap.size + 1, 0, none⟩) (by show w.heap.size + 1 ≠ w.heap.size; omega) (.int .i64 (s.size : Int))).own (q := ⟨w.heap.size + 1 + 1, 0, none⟩) (by show w.heap.size + 1 + 1 ≠ w.heap.size; omega) (.int .i64 0))
    have t1 : Bj W9 (w.heap.size + 1) #[.int .i64 (s.size : Int)] 3 := by rw [hW9]; exact (((((((((Hs1.out.own (q := ⟨w.heap.size, 0, none⟩) (by show w.heap.size ≠ w.heap.size + 1; omega) (.int .i64 v.kind)).own (q := ⟨w.heap.size, 1, none⟩) (by show w.heap.size ≠ w.heap.size + 1; omega) (.bool v.b)).own (q := ⟨w.heap.size, 2, none⟩) (by show w.heap.size ≠ w.heap.size + 1; omega) (.int .i64 v.n)).own (q := ⟨w.heap.size, 3, none⟩) (by show w.heap.size ≠ w.heap.size + 1; omega) (.string v.s)).own (q := ⟨w.heap.size, 4, none⟩) (by show w.heap.size ≠ w.heap.size + 1; omega) (.slice p1 v.items.length c1)).own (q := ⟨w.heap.size, 5, none⟩) (by show w.heap.size ≠ w.heap.size + 1; omega) (.slice q1 v.mems.length d1)).own (q := ⟨w.heap.size, 6, none⟩) (by show w.heap.size ≠ w.heap.size + 1; omega) (.int .i64 v.at')).set 0 (.int .i64 (s.size : Int))).own (q := ⟨w.heap.size + 1 + 1, 0, none⟩) (by show w.heap.size + 1 + 1 ≠ w.heap.size + 1; omega) (.int .i64 0))
    have t2 : Bj W9 (w.heap.size + 1 + 1) #[.int .i64 0] 28 := by rw [hW9]; exact (((((((((Hs2.out.own (q := ⟨w.heap.size, 0, none⟩) (by show w.heap.size ≠ w.heap.size + 1 + 1; omega) (.int .i64 v.kind)).own (q := ⟨w.heap.size, 1, none⟩) (by show w.heap.size ≠ w.heap.size + 1 + 1; omega) (.bool v.b)).own (q := ⟨w.heap.size, 2, none⟩) (by show w.heap.size ≠ w.heap.size + 1 + 1; omega) (.int .i64 v.n)).own (q := ⟨w.heap.size, 3, none⟩) (by show w.heap.size ≠ w.heap.size + 1 + 1; omega) (.string v.s)).own (q := ⟨w.heap.size, 4, none⟩) (by show w.heap.size ≠ w.heap.size + 1 + 1; omega) (.slice p1 v.items.length c1)).own (q := ⟨w.heap.size, 5, none⟩) (by show w.heap.size ≠ w.heap.size + 1 + 1; omega) (.slice q1 v.mems.length d1)).own (q := ⟨w.heap.size, 6, none⟩) (by show w.heap.size ≠ w.heap.size + 1 + 1; omega) (.int .i64 v.at')).own (q := ⟨w.heap.size + 1, 0, none⟩) (by show w.heap.size + 1 ≠ w.heap.size + 1 + 1; omega) (.int .i64 (s.size : Int))).set 0 (.int .i64 0))
    have h9 : Below w.heap.size w W9 := by rw [hW9]; exact (((((((((Hbb.out.setCell (p := ⟨w.heap.size, 0, none⟩) (Nat.le_refl _) (.int .i64 v.kind)).setCell (p := ⟨w.heap.size, 1, none⟩) (Nat.le_refl _) (.bool v.b)).setCell (p := ⟨w.heap.size, 2, none⟩) (Nat.le_refl _) (.int .i64 v.n)).setCell (p := ⟨w.heap.size, 3, none⟩) (Nat.le_refl _) (.string v.s)).setCell (p := ⟨w.heap.size, 4, none⟩) (Nat.le_refl _) (.slice p1 v.items.length c1)).setCell (p := ⟨w.heap.size, 5, none⟩) (Nat.le_refl _) (.slice q1 v.mems.length d1)).setCell (p := ⟨w.heap.size, 6, none⟩) (Nat.le_refl _) (.int .i64 v.at')).setCell (p := ⟨w.heap.size + 1, 0, none⟩) (Nat.le_succ _) (.int .i64 (s.size : Int))).setCell (p := ⟨w.heap.size + 1 + 1, 0, none⟩) (by show w.heap.size ≤ w.heap.size + 1 + 1; omega) (.int .i64 0))
    have hs9 : ∀ k, w.heap.size + 3 ≤ k → W9.heap[k]? = w5.heap[k]? := fun k hk => by
      have e0 : k ≠ w.heap.size := by omega
      have e1 : k ≠ w.heap.size + 1 := by omega
      have e2 : k ≠ w.heap.size + 1 + 1 := by omega
      rw [hW9, Below.heap_setCell _ _ _ _ e2, Below.heap_setCell _ _ _ _ e1, Below.heap_setCell _ _ _ _ e0, Below.heap_setCell _ _ _ _ e0, Below.heap_setCell _ _ _ _ e0, Below.heap_setCell _ _ _ _ e0, Below.heap_setCell _ _ _ _ e0, Below.heap_setCell _ _ _ _ e0, Below.heap_setCell _ _ _ _ e0]
    have hV : ValIs W9 v (.agg #[.int .i64 v.kind, .bool v.b, .int .i64 v.n, .string v.s, .slice p1 v.items.length c1, .slice q1 v.mems.length d1, .int .i64 v.at']) := ValIs.full (X := low W3.heap.size) (Hx5.out.go (fun k hk hn => ⟨hn, hs9 k (by have := low_no hn; omega)⟩))
    clear hW9 hs9 x0 x1 x2 x3 x4 x5 x6 k0 k1 k2 k3 k4 k5 k6 y1 y2 z1 z2
    obtain ⟨⟨x0, x1, x2, x3, x4, x5, x6⟩, -⟩ := t0.seven
    have y1 : W9.cell? ⟨w.heap.size + 1, 0, none⟩ = some (.int .i64 (s.size : Int)) := t1.cell 0
    have y2 : W9.cell? ⟨w.heap.size + 1 + 1, 0, none⟩ = some (.int .i64 0) := t2.cell 0
    simp [Leaves, settle, results, Tryz.results8, go_sem, x0, x1, x2, x3, x4, x5, x6, y1, y2]
    exact ⟨hV, h9⟩
end Go.Proofs.YtdooadalkbghgaaGreatDoor
end
