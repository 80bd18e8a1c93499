/- Packed from the texts JvY. -/
import Derived.Test.YtkkiklaoljdhhaaGreatDoorYJvM
import Derived.Test.YtkkiklaoljdhhaaGreatDoorYJvO
import Derived.Test.YtkkiklaoljdhhaaGreatDoorYkP
import Derived.Deep.RegionHeld3
section
namespace Go.Proofs.YtkkiklaoljdhhaaGreatDoor
open Go.RowKit
theorem jref_val : ∀ g, JvC' g := by
  intro g
  induction g using Nat.strongRecOn with
  | ind g ih =>
    match g, ih with
    | 0, _ => exact fun s i d w hs hi hd hf => absurd hf (by omega)
    | 1, _ => exact fun s i d w hs hi hd hf => absurd hf (by omega)
    | f + 2, ih =>
      exact jref_value f (fun s i d w hs hi hd hf hc => by
        rcases hc with hc | hc
        · exact jref_listA f (fun g hg => ih g (by omega)) s i d w hs hi hd hf hc
        · exact jref_listO f (fun g hg => ih g (by omega)) s i d w hs hi hd hf hc)
theorem jretPJ {R : ValD × Int × Int} {v : ValD} {a e : Int} (h : R = (v, a, e)) {w : World} {x : Value} (hx : ValIs w v x) : ∃ y, Ending.returned (.tuple #[x, .int .i64 a, .int .i64 e]) = .returned (.tuple #[y, .int .i64 R.2.1, .int .i64 R.2.2]) ∧ ValIs w R.1 y := by
  subst h
  exact ⟨x, rfl, hx⟩
theorem jzero_is (w : World) : ValIs w zeroVal (.agg #[.int .i64 0, .bool false, .int .i64 0, .string ⟨#[]⟩, .slice none 0 0, .slice none 0 0, .int .i64 0]) := (val_is w _ _).2 ⟨none, 0, none, 0, rfl, by show ItemsAt w none 0 []; rw [ItemsAt]; trivial, by show MemsAt w none 0 []; rw [MemsAt]; trivial⟩
set_option maxRecDepth 100000 in
set_option maxHeartbeats 32000000 in
theorem jref_ParseJ (s : ByteArray) (w : World) (hs : s.size ≤ 1000000) :
    Calls Tryz.prog 8 #[.string s] w fun e w' => (∃ x, e = .returned (.tuple #[x, .int .i64 (parR s.data.toList).2.1, .int .i64 (parR s.data.toList).2.2]) ∧ ValIs w' (parR s.data.toList).1 x) ∧ Below w.heap.size w w' := by
  have hsl : s.data.toList.length = s.size := by simp
  have cB : ∀ wx, _ := fun wx => tref_Has s ⟨#[239, 187, 191]⟩ ((0 : Nat) : Int) wx hs (by decide) (by decide) (by omega)
  rw [show ((⟨#[239, 187, 191]⟩ : ByteArray).data.toList) = [239, 187, 191] from rfl, has_pre, List.drop_zero, show ((0 : Nat) : Int) = 0 from rfl] at cB
  obtain ⟨b, hb⟩ : ∃ b, b = if [239, 187, 191].isPrefixOf s.data.toList = true then 3 else 0 := ⟨_, rfl⟩
  have hbs : b ≤ s.size := by
    rw [hb]
    split
    · rename_i h
      have := (List.isPrefixOf_iff_prefix.1 h).length_le
      rw [hsl] at this
      exact this
    · exact Nat.zero_le _
  have hpR : parR s.data.toList = match (valK (3 * (s.size - b) + 2) b (s.data.toList.drop b) 1).to b with
      | .err a e => (zeroVal, a, e)
      | .ok v j => if spP s.data.toList j < s.data.toList.length then (zeroVal, ((spP s.data.toList j : Nat) : Int), 17) else (v, s.data.toList.length, 0) := by
    unfold parR tA vA
    rw [← hb, List.length_drop, hsl]
    rcases (valK (3 * (s.size - b) + 2) b (s.data.toList.drop b) 1).to b with ⟨a, e⟩ | ⟨v, j⟩
    · rfl
    · by_cases h : spP s.data.toList j < s.size
      · simp only [if_pos h]
      · simp only [if_neg h]
  have cV : ∀ wx, _ := fun wx => jref_val (3 * (s.size - b) + 2) s b 1 wx hs hbs (by omega) (Nat.le_refl _)
  obtain ⟨R, hR⟩ : ∃ R, parR s.data.toList = R := ⟨_, rfl⟩
  rw [hR] at hpR ⊢
  obtain ⟨W0, hW0⟩ : ∃ W0, W0 = w.alloc (.cells #[.int .i64 0, .bool false, .int .i64 0, .string ⟨#[]⟩, .slice none 0 0, .slice none 0 0, .int .i64 0] 26) := ⟨_, rfl⟩
  have B0 : Bj W0 w.heap.size #[.int .i64 0, .bool false, .int .i64 0, .string ⟨#[]⟩, .slice none 0 0, .slice none 0 0, .int .i64 0] 26 := by rw [hW0]; exact Bj.new w _ _
  have b0 : Below w.heap.size w W0 := by rw [hW0]; exact (Below.refl _ _).alloc (Nat.le_refl _) _
  have HSL := Lib.hid hsl
  have HB0 := Lib.hid B0
  have Hb0 := Lib.hid b0
  have hz0 := b0.size
  have hlt0 := B0.lt
  have hb3 : (b : Int) ≤ 3 := by rw [hb]; split <;> simp
  clear hR hsl B0 b0
  generalize hpx : [239, 187, 191].isPrefixOf s.data.toList = px at *
  rcases px with _ | _
  all_goals
    rw [show ((1 : Nat) : Int) = 1 from rfl] at cV
    first
      | (rw [if_neg (by decide)] at hb
         have hbz : (b : Int) = 0 := by omega
         simp only [hbz] at cV
         clear hbz)
      | (rw [if_pos rfl] at hb
         have hbz : (b : Int) = 3 := by omega
         simp only [hbz] at cV
         clear hbz)
    clear hpx hb3 hb
    rcases hV : valK (3 * (s.size - b) + 2) b (s.data.toList.drop b) 1 with ⟨a, e⟩ | ⟨v, kv⟩
    · rw [hV] at cV hpR
      have HR := Lib.hid hpR
      clear hV hpR
      go_enter Tryz.func8, Tryz.ntmps8
      go_upto_region 1 with fail
      simp only [← hW0]
      clear hW0
      go_wp2_with fail
      refine (cB _).mono ?_
      rintro en w3 ⟨rfl, rfl⟩
      go_wp2_with fail
      refine (cV _).mono ?_
      rintro en w2 ⟨⟨x, rfl, hx⟩, b2⟩
      obtain ⟨rfl, he⟩ := hx
      have he1 : (e != 0) = true := by simpa using he
      have h2z := b2.size
      have Hb2 := Lib.hid b2
      obtain ⟨wq, hwq⟩ : ∃ wq, wq = w2.alloc (.cells #[.int .i64 0, .bool false, .int .i64 0, .string ⟨#[]⟩, .slice none 0 0, .slice none 0 0, .int .i64 0, .int .i64 a, .int .i64 e] 54) := ⟨_, rfl⟩
      have bq : Below w2.heap.size w2 wq := by rw [hwq]; exact (Below.refl _ _).alloc (Nat.le_refl _) _
      have hKb : Bj wq w2.heap.size #[.int .i64 0, .bool false, .int .i64 0, .string ⟨#[]⟩, .slice none 0 0, .slice none 0 0, .int .i64 0, .int .i64 a, .int .i64 e] 54 := by rw [hwq]; exact Bj.new w2 _ _
      have hRb : Bj wq w.heap.size #[.int .i64 0, .bool false, .int .i64 0, .string ⟨#[]⟩, .slice none 0 0, .slice none 0 0, .int .i64 0] 26 := (HB0.out.more b2).more bq
      have HBo := Lib.hid ((Hb0.out.trans (b2.mono Hb0.out.size)).trans (bq.mono (by omega)))
      have x7 : wq.cell? ⟨w2.heap.size, 7, none⟩ = some (.int .i64 a) := hKb.cell 7
      have x8 : wq.cell? ⟨w2.heap.size, 8, none⟩ = some (.int .i64 e) := hKb.cell 8
      obtain ⟨⟨r0, r1, r2, r3, r4, r5, r6⟩, k0, k1, k2, k3, k4, k5, k6⟩ := hRb.seven
      clear b2 he cB cV
      unfold errV
      go_upto_region 5 with fail
      simp only [← hwq]
      clear hwq
      go_wp2
      have hS0 : wq.drew.cell? ⟨w2.heap.size, 7, none⟩ = some (.int .i64 a) ∧ wq.drew.cell? ⟨w2.heap.size, 8, none⟩ = some (.int .i64 e) := ⟨x7, x8⟩
      have hSs : ∀ u0 u1 u2 u3 u4 u5 u6 : Value, (((((((wq.setCell ⟨w.heap.size, 0, none⟩ u0).setCell ⟨w.heap.size, 1, none⟩ u1).setCell ⟨w.heap.size, 2, none⟩ u2).setCell ⟨w.heap.size, 3, none⟩ u3).setCell ⟨w.heap.size, 4, none⟩ u4).setCell ⟨w.heap.size, 5, none⟩ u5).setCell ⟨w.heap.size, 6, none⟩ u6).drew.cell? ⟨w2.heap.size, 7, none⟩ = some (.int .i64 a) ∧ (((((((wq.setCell ⟨w.heap.size, 0, none⟩ u0).setCell ⟨w.heap.size, 1, none⟩ u1).setCell ⟨w.heap.size, 2, none⟩ u2).setCell ⟨w.heap.size, 3, none⟩ u3).setCell ⟨w.heap.size, 4, none⟩ u4).setCell ⟨w.heap.size, 5, none⟩ u5).setCell ⟨w.heap.size, 6, none⟩ u6).drew.cell? ⟨w2.heap.size, 8, none⟩ = some (.int .i64 e) := fun u0 u1 u2 u3 u4 u5 u6 =>
        have q := (jset7 (Pj.refl (fun b => b = w.heap.size) wq) (b := w.heap.size) (.inl rfl) 0 u0 u1 u2 u3 u4 u5 u6).drew
        ⟨q.cell x7 (by show ¬ w2.heap.size = w.heap.size; omega), q.cell x8 (by show ¬ w2.heap.size = w.heap.size; omega)⟩
      go_region_held3 (fun w' => w'.cell? ⟨w2.heap.size, 7, none⟩ = some (.int .i64 a) ∧ w'.cell? ⟨w2.heap.size, 8, none⟩ = some (.int .i64 e)) (first | with_reducible exact hS0 | with_reducible exact hSs _ _ _ _ _ _ _) (fail)
      clear hS0 hSs
      rename_i hHeld
      clear hHeld
      go_wp2
      exact bodyPost_ret (v := .tuple #[.agg #[.int .i64 0, .bool false, .int .i64 0, .string ⟨#[]⟩, .slice none 0 0, .slice none 0 0, .int .i64 0], .int .i64 a, .int .i64 e]) (by simp [results, Tryz.results8, go_sem, jset_same, r0, r1, r2, r3, r4, r5, r6]) rfl ⟨jretPJ (show R = (zeroVal, a, e) from HR.out) (jzero_is _), ((jset7 (Pj.refl (fun b => b = w.heap.size) wq) (b := w.heap.size) (.inl rfl) 0 _ _ _ _ _ _ _).drew).below HBo.out (fun b hb => by omega) HBo.out.size⟩
    · rw [hV] at cV hpR
      clear hV
      go_enter Tryz.func8, Tryz.ntmps8
      go_upto_region 1 with fail
      simp only [← hW0]
      clear hW0
      go_wp2_with fail
      refine (cB _).mono ?_
      rintro en w3 ⟨rfl, rfl⟩
      go_wp2_with fail
      refine (cV _).mono ?_
      rintro en w2 ⟨⟨x, rfl, hx⟩, b2⟩
      obtain ⟨hle, p, c, q, d, hx1, hI, hM⟩ := hx
      obtain ⟨tz, htz⟩ : ∃ tz, tz = b + kv := ⟨_, rfl⟩
      rw [← htz] at hle hx1
      subst hx1
      have hpR2 : R = if spP s.data.toList tz < s.data.toList.length then (zeroVal, ((spP s.data.toList tz : Nat) : Int), 17) else (v, s.data.toList.length, 0) := by rw [htz]; exact hpR
      have hsp := spP_le s.data.toList tz (by rw [HSL.out]; exact hle)
      have cS : ∀ wx, _ := fun wx => jref_spaces s tz wx hs (by omega)
      rw [HSL.out] at hpR2 hsp
      clear hpR htz
      generalize spP s.data.toList tz = n1 at *
      have hn1 : n1 ≤ s.size := hsp.2
      have HR := Lib.hid hpR2
      have h2z := b2.size
      have hv : ValIs (sans w2 (low W0.heap.size)) v (.agg #[.int .i64 v.kind, .bool v.b, .int .i64 v.n, .string v.s, .slice p v.items.length c, .slice q v.mems.length d, .int .i64 v.at']) := (val_is _ _ _).2 ⟨p, c, q, d, rfl, hI, hM⟩
      obtain ⟨wq, hwq⟩ : ∃ wq, wq = w2.alloc (.cells #[.int .i64 v.kind, .bool v.b, .int .i64 v.n, .string v.s, .slice p v.items.length c, .slice q v.mems.length d, .int .i64 v.at', .int .i64 (tz : Int), .int .i64 0] 54) := ⟨_, rfl⟩
      have bq : Below w2.heap.size w2 wq := by rw [hwq]; exact (Below.refl _ _).alloc (Nat.le_refl _) _
      have hKb : Bj wq w2.heap.size #[.int .i64 v.kind, .bool v.b, .int .i64 v.n, .string v.s, .slice p v.items.length c, .slice q v.mems.length d, .int .i64 v.at', .int .i64 (tz : Int), .int .i64 0] 54 := by rw [hwq]; exact Bj.new w2 _ _
      have hRb : Bj wq w.heap.size #[.int .i64 0, .bool false, .int .i64 0, .string ⟨#[]⟩, .slice none 0 0, .slice none 0 0, .int .i64 0] 26 := (HB0.out.more b2).more bq
      have HBo := Lib.hid ((Hb0.out.trans (b2.mono Hb0.out.size)).trans (bq.mono (by omega)))
      have HV := Lib.hid (hv.go (Gos.below (X := low W0.heap.size) bq))
      obtain ⟨⟨r0, r1, r2, r3, r4, r5, r6⟩, k0, k1, k2, k3, k4, k5, k6⟩ := hRb.seven
      obtain ⟨⟨x0, x1, x2, x3, x4, x5, x6, x7, x8⟩, -⟩ := hKb.nine
      clear b2 cB cV hI hM hv hRb hKb bq hsp hpR2
      unfold resV
      go_upto_region 5 with fail
      simp only [← hwq]
      clear hwq
      go_wp2_with fail
      refine (cS _).mono ?_
      rintro en w3 ⟨rfl, rfl⟩
      by_cases hn : n1 < s.size
      · have hnz : (n1 : Int) < (s.size : Int) := by omega
        have HQ := Lib.hid (HR.out.trans (if_pos hn))
        clear HR hn cS
        go_wp2
        exact bodyPost_ret (v := .tuple #[.agg #[.int .i64 0, .bool false, .int .i64 0, .string ⟨#[]⟩, .slice none 0 0, .slice none 0 0, .int .i64 0], .int .i64 (n1 : Int), .int .i64 17]) (by simp [results, Tryz.results8, go_sem, jset_same, r0, r1, r2, r3, r4, r5, r6]) rfl ⟨jretPJ HQ.out (jzero_is _), (jset7 (Pj.refl (fun b => b = w.heap.size) wq) (b := w.heap.size) (.inl rfl) 0 _ _ _ _ _ _ _).below HBo.out (fun b hb => by omega) HBo.out.size⟩
      · have hnz : ¬ (n1 : Int) < (s.size : Int) := by omega
        have HQ := Lib.hid (HR.out.trans (if_neg hn))
        clear HR hn cS
        go_wp2
        have hP := jset7 (Pj.refl (fun b => b = w.heap.size) wq) (b := w.heap.size) (.inl rfl) 0 (.int .i64 v.kind) (.bool v.b) (.int .i64 v.n) (.string v.s) (.slice p v.items.length c) (.slice q v.mems.length d) (.int .i64 v.at')
        exact bodyPost_ret (v := .tuple #[.agg #[.int .i64 v.kind, .bool v.b, .int .i64 v.n, .string v.s, .slice p v.items.length c, .slice q v.mems.length d, .int .i64 v.at'], .int .i64 (s.size : Int), .int .i64 0]) (by simp [results, Tryz.results8, go_sem, jset_same, r0, r1, r2, r3, r4, r5, r6]) rfl ⟨jretPJ HQ.out (HV.out.go (Gos.part (X := low W0.heap.size) (hP.mono fun b _ hb => by subst hb; simp [low]; exact hlt0))).full, hP.below HBo.out (fun b hb => by omega) HBo.out.size⟩
end Go.Proofs.YtkkiklaoljdhhaaGreatDoor
end
