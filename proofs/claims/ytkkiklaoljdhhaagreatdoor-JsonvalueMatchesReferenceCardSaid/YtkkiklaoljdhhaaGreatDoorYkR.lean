/- Packed from the texts JpR JpS. -/
import Derived.Test.YtkkiklaoljdhhaaGreatDoorYkM
section
namespace Go.Proofs.YtkkiklaoljdhhaaGreatDoor
open Go.RowKit
set_option maxRecDepth 100000 in
set_option maxHeartbeats 16000000 in
theorem jp_Get (n : ValD) (v : Value) (k : ByteArray) (w : World) (hml : n.mems.length ≤ 140737488351232) (hn : ValIs w n v) :
    Calls Tryz.prog 12 #[v, .string k] w fun e w' => (∃ x, e = .returned (.tuple #[x, .bool (getV n k).isSome]) ∧ GotV w' (getV n k) x) ∧ Below w.heap.size w w' := by
  have HD := Lib.hid (show getV n k = if n.kind = 5 then getL k n.mems else none from rfl)
  obtain ⟨p, c, q, d, rfl, -, hM⟩ := (val_is w n v).1 hn
  clear hn
  generalize getV n k = R at *
  generalize n.kind = kd at *
  generalize n.items = items at *
  generalize n.mems = mems at *
  have hB0 := Bj.first w (.cells #[.int .i64 0, .bool false, .int .i64 0, .string ⟨#[]⟩, .slice none 0 0, .slice none 0 0, .int .i64 0] 26) #[.int .i64 kd, .bool n.b, .int .i64 n.n, .string n.s, .slice p items.length c, .slice q mems.length d, .int .i64 n.at'] 26
  have hB1 := Bj.second w (.cells #[.int .i64 kd, .bool n.b, .int .i64 n.n, .string n.s, .slice p items.length c, .slice q mems.length d, .int .i64 n.at'] 26) #[.int .i64 0, .bool false, .int .i64 0, .string ⟨#[]⟩, .slice none 0 0, .slice none 0 0, .int .i64 0] 26
  obtain ⟨W, hW⟩ : ∃ W, W = ((w.alloc (.cells #[.int .i64 kd, .bool n.b, .int .i64 n.n, .string n.s, .slice p items.length c, .slice q mems.length d, .int .i64 n.at'] 26)).alloc (.cells #[.int .i64 0, .bool false, .int .i64 0, .string ⟨#[]⟩, .slice none 0 0, .slice none 0 0, .int .i64 0] 26)) := ⟨_, rfl⟩
  have hbw : Below w.heap.size w W := by rw [hW]; exact ((Below.refl _ _).alloc (Nat.le_refl _) _).alloc (by simp) _
  rw [← hW] at hB0 hB1
  have hml2 : (mems.length : Int) ≤ 140737488351232 := by omega
  obtain ⟨⟨r0, r1, r2, r3, r4, r5, r6⟩, k0, k1, k2, k3, k4, k5, k6⟩ := hB1.seven
  have HBW := Lib.hid hbw
  have HB1 := Lib.hid hB1
  by_cases h5 : kd = 5
  case neg =>
    rw [if_neg h5] at HD
    have h5b : (kd != 5) = true := by simpa using h5
    have h5c : (kd == 5) = false := by simpa using h5
    have g0 : W.cell? ⟨w.heap.size, 0, none⟩ = some (.int .i64 kd) := hB0.cell 0
    clear hB0 hB1 hbw hM h5
    go_enter Tryz.func12, Tryz.ntmps12
    go_upto_region 1 with fail
    simp only [← hW]
    clear hW
    go_wp2
    refine bodyPost_ret (v := .tuple #[zeroJ, .bool false]) (by simp [results, Tryz.results12, go_sem, jset_same, r0, r1, r2, r3, r4, r5, r6, zeroJ]) rfl ?_
    have hq := jset7 (Pj.refl (fun b => b = w.heap.size + 1) W) (b := w.heap.size + 1) (.inl rfl) 0 (.int .i64 0) (.bool false) (.int .i64 0) (.string ⟨#[]⟩) (.slice none 0 0) (.slice none 0 0) (.int .i64 0)
    exact ⟨⟨_, by rw [HD.out]; rfl, GotV.none' HD.out rfl⟩, hq.below HBW.out (fun b hb => by omega) HBW.out.size⟩
  subst h5
  rw [if_pos rfl] at HD
  have g0 : W.cell? ⟨w.heap.size, 0, none⟩ = some (.int .i64 5) := hB0.cell 0
  have g5 : W.cell? ⟨w.heap.size, 5, none⟩ = some (.slice q mems.length d) := hB0.cell 5
  have HMW := Lib.hid hM
  clear hB0 hB1 hbw hM
  go_enter Tryz.func12, Tryz.ntmps12
  go_upto_region 1 with fail
  simp only [← hW]
  clear hW
  go_wp2
  go_loopw [15] (fun vi wr => ∃ i : Nat, i ≤ mems.length ∧ vi = .int .i64 i ∧ getL k mems = getL k (mems.drop i) ∧ Below W.heap.size W wr) (fun vi _ => mems.length - (RowKit.intOf vi).toNat)
  case atStart => exact ⟨0, Nat.zero_le _, rfl, rfl, Below.refl _ _⟩
  case round =>
    obtain ⟨i, hi, rfl, hrel, hbr⟩ := hrel
    have HBR := Lib.hid (HBW.out.trans (hbr.mono HBW.out.size))
    have hzr := hbr.size
    by_cases hlt : i < mems.length
    · have hiz : (i : Int) < (mems.length : Int) := by omega
      obtain ⟨a, p2, c2, q2, d2, rfl, ⟨a8, a0, a1, a2, a3, a4, a5, a6, a7⟩, hk⟩ := HMW.out.cells i hlt
      have up : ∀ {c : Addr} {v : Value}, w.cell? c = some v → wr.cell? c = some v := fun h => (HBR.out.cell (vblock_lt h)).trans h
      replace a0 := up a0
      replace a1 := up a1
      replace a2 := up a2
      replace a3 := up a3
      replace a4 := up a4
      replace a5 := up a5
      replace a6 := up a6
      replace a7 := up a7
      replace a8 := up a8
      clear up
      rw [List.drop_eq_getElem_cons hlt, getL] at hrel
      obtain ⟨m, hm⟩ : ∃ m, mems[i] = m := ⟨_, rfl⟩
      rw [hm] at hrel a0 a1 a2 a3 a4 a5 a6 a7 a8 hk
      obtain ⟨cc, hcc⟩ : ∃ c, a.add (i * 9) = c := ⟨_, rfl⟩
      rw [hcc] at a0 a1 a2 a3 a4 a5 a6 a7 a8
      simp only [Addr.add, Nat.reduceEqDiff, ↓reduceIte] at a0 a1 a2 a3 a4 a5 a6 a7
      have bt : Below wr.heap.size wr (wr.alloc (.cells #[.string m.key, .int .i64 m.v.kind, .bool m.v.b, .int .i64 m.v.n, .string m.v.s, .slice p2 m.v.items.length c2, .slice q2 m.v.mems.length d2, .int .i64 m.v.at', .int .i64 m.at'] 44)) := (Below.refl _ _).alloc (Nat.le_refl _) _
      have HKw := Lib.hid hk
      have HBT := Lib.hid (hbr.trans (bt.mono hzr))
      have HR1 := Lib.hid ((HB1.out.more hbr).more bt)
      clear hk hm
      by_cases hkey : m.key = k
      · rw [if_pos hkey] at hrel
        have HR := Lib.hid (HD.out.trans hrel)
        subst hkey
        obtain ⟨⟨r0, r1, r2, r3, r4, r5, r6⟩, k0, k1, k2, k3, k4, k5, k6⟩ := HR1.out.seven
        have hne : wr.heap.size ≠ w.heap.size + 1 := by have := (HB1.out).lt; omega
        clear hrel bt
        go_wp2
        refine bodyPost_ret (v := .tuple #[.agg #[.int .i64 m.v.kind, .bool m.v.b, .int .i64 m.v.n, .string m.v.s, .slice p2 m.v.items.length c2, .slice q2 m.v.mems.length d2, .int .i64 m.v.at'], .bool true]) (by simp [results, Tryz.results12, go_sem, jset_same, r0, r1, r2, r3, r4, r5, r6]) rfl ?_
        have hq := jset7 (Pj.refl (fun b => b = w.heap.size + 1) (wr.alloc (.cells #[.string m.key, .int .i64 m.v.kind, .bool m.v.b, .int .i64 m.v.n, .string m.v.s, .slice p2 m.v.items.length c2, .slice q2 m.v.mems.length d2, .int .i64 m.v.at', .int .i64 m.at'] 44))) (b := w.heap.size + 1) (.inl rfl) 0 (.int .i64 m.v.kind) (.bool m.v.b) (.int .i64 m.v.n) (.string m.v.s) (.slice p2 m.v.items.length c2) (.slice q2 m.v.mems.length d2) (.int .i64 m.v.at')
        have hq2 := hq.below (HBW.out.trans (HBT.out.mono HBW.out.size)) (fun b hb => by omega) (by have := HBT.out.size; have := HBW.out.size; omega)
        exact ⟨⟨_, by rw [HR.out]; rfl, GotV.some' HR.out (HKw.out.below hq2)⟩, hq2⟩
      · rw [if_neg hkey] at hrel
        have HR := Lib.hid hrel
        have hk1 := jstr_ne hkey
        have hk2 := jstr_ne2 hkey
        have hk3 := jstr_ne3 hkey
        clear hrel hkey bt
        go_wp2
        go_roundw
        case rel => exact ⟨i + 1, by omega, by go_num, HR.out, HBT.out⟩
        case measure => simp [RowKit.intOf]; omega
    · obtain rfl : i = mems.length := by omega
      rw [List.drop_eq_nil_of_le (Nat.le_refl _), getL] at hrel
      have HR := Lib.hid (HD.out.trans hrel)
      have HR1 := Lib.hid (HB1.out.more hbr)
      obtain ⟨⟨r0, r1, r2, r3, r4, r5, r6⟩, k0, k1, k2, k3, k4, k5, k6⟩ := HR1.out.seven
      clear hrel
      go_wp2
      refine bodyPost_ret (v := .tuple #[zeroJ, .bool false]) (by simp [results, Tryz.results12, go_sem, jset_same, r0, r1, r2, r3, r4, r5, r6, zeroJ]) rfl ?_
      have hq := jset7 (Pj.refl (fun b => b = w.heap.size + 1) wr) (b := w.heap.size + 1) (.inl rfl) 0 (.int .i64 0) (.bool false) (.int .i64 0) (.string ⟨#[]⟩) (.slice none 0 0) (.slice none 0 0) (.int .i64 0)
      exact ⟨⟨_, by rw [HR.out]; rfl, GotV.none' HR.out rfl⟩, hq.below HBR.out (fun b hb => by omega) (by have := HBR.out.size; omega)⟩
end Go.Proofs.YtkkiklaoljdhhaaGreatDoor
end
section
namespace Go.Proofs.YtkkiklaoljdhhaaGreatDoor
open Go.RowKit
set_option maxRecDepth 100000 in
set_option maxHeartbeats 16000000 in
theorem jp_Depth : ∀ (f : Nat) (n : ValD) (v : Value) (w : World), n.cnt ≤ f → n.cnt ≤ 1000000 → ValIs w n v → Calls Tryz.prog 17 #[v] w fun e w' => e = .returned (.int .i64 (n.depth : Nat)) ∧ Below w.heap.size w w'
  | 0, n, _, _, hf, _, _ => absurd hf (by have := vcnt_eq n; omega)
  | f + 1, n, v, w, hf, hc, hn => by
    have HD := Lib.hid (vdepth_eq n)
    have hce := vcnt_eq n
    have HIM := Lib.hid (fun k (hk : k ∈ n.items) => show k.cnt ≤ f ∧ k.cnt ≤ 1000000 by have := vcnt_item n k hk; omega)
    have HMM := Lib.hid (fun m (hm : m ∈ n.mems) => show m.v.cnt ≤ f ∧ m.v.cnt ≤ 1000000 by have := vcnt_mem n m hm; omega)
    have hdi : vdepths n.items 0 ≤ 1000000 := by have := vdepths_cnt n.items 0; omega
    have hdm : mdepths n.mems 0 ≤ 1000000 := by have := mdepths_cnt n.mems 0; omega
    have hil : (n.items.length : Int) ≤ 1000000 := by have := vcnts_len n.items; omega
    have hml : (n.mems.length : Int) ≤ 1000000 := by have := mcnts_len n.mems; omega
    obtain ⟨p, c, q, d, rfl, hI, hM⟩ := (val_is w n v).1 hn
    clear hn hf hce
    generalize n.kind = kd at *
    generalize n.items = items at *
    generalize n.mems = mems at *
    have HDI := Lib.hid hdi
    have HDM := Lib.hid hdm
    clear hdi hdm
    by_cases h4 : kd = 4
    · subst h4
      rw [if_pos rfl] at HD
      clear hM
      go_enter Tryz.func17, Tryz.ntmps17
      go_wp2
      go_loopw [3, 15] (fun a b wr => ∃ i m : Nat, i ≤ items.length ∧ b = .int .i64 i ∧ a = .int .i64 m ∧ vdepths items 0 = vdepths (items.drop i) m ∧ Below w.heap.size w wr) (fun _ b _ => items.length - (intOf b).toNat)
      case atStart => exact ⟨0, 0, Nat.zero_le _, rfl, rfl, rfl, (Below.refl _ _).alloc (Nat.le_refl _) _⟩
      case round =>
        obtain ⟨i, m, hi, rfl, rfl, hrel, hbw⟩ := hrel
        have hz := hbw.size
        have hdm : m ≤ vdepths items 0 := by rw [hrel]; exact vdepths_ge _ _
        have hm6 : (m : Int) ≤ 1000000 := by have := HDI.out; omega
        by_cases hlt : i < items.length
        · have hiz : (i : Int) < (items.length : Int) := by omega
          obtain ⟨a, p2, c2, q2, d2, rfl, ⟨a0, a1, a2, a3, a4, a5, a6⟩, hk⟩ := (hI.below hbw).cells i hlt
          obtain ⟨k, hkk⟩ : ∃ k, items[i] = k := ⟨_, rfl⟩
          have hmem : k ∈ items := by rw [← hkk]; exact List.getElem_mem _
          rw [List.drop_eq_getElem_cons hlt, hkk, vdepths] at hrel
          rw [hkk] at hk a0 a1 a2 a3 a4 a5 a6
          obtain ⟨hk1', hk2⟩ := HIM.out k hmem
          have hkd := vdepth_cnt k
          obtain ⟨Wt, hWt⟩ : ∃ Wt, Wt = wr.alloc (.cells #[.int .i64 k.kind, .bool k.b, .int .i64 k.n, .string k.s, .slice p2 k.items.length c2, .slice q2 k.mems.length d2, .int .i64 k.at'] 26) := ⟨_, rfl⟩
          have Bt : Below wr.heap.size wr Wt := by rw [hWt]; exact (Below.refl _ _).alloc (Nat.le_refl _) _
          have c1 := jp_Depth f k _ Wt hk1' hk2 (hk.below Bt)
          have HBT := Lib.hid (hbw.trans (Bt.mono hz))
          have hzt := Bt.size
          rw [hWt] at c1 HBT hzt
          clear hWt Bt
          generalize k.depth = dd at *
          obtain ⟨cc, hcc⟩ : ∃ c, a.add (i * 7) = c := ⟨_, rfl⟩
          rw [hcc] at a0 a1 a2 a3 a4 a5 a6
          simp only [Addr.add, Nat.reduceEqDiff, ↓reduceIte] at a1 a2 a3 a4 a5 a6
          have HR := Lib.hid hrel
          have hdk6 : (dd : Int) ≤ 1000000 := by omega
          clear hrel hI hk hmem hkk HIM HMM
          have HMX := Lib.hid (show ((max m dd : Nat) : Int) = max (m : Int) (dd : Int) by omega)
          go_wp2_with fail
          refine c1.mono ?_
          rintro e w1 ⟨rfl, b1⟩
          go_wp2
          go_roundw
          case rel => exact ⟨i + 1, max m dd, by omega, by go_num, by rw [HMX.out], HR.out, HBT.out.trans (b1.mono (by omega))⟩
          case measure => simp [intOf]; omega
        · obtain rfl : i = items.length := by omega
          rw [List.drop_eq_nil_of_le (Nat.le_refl _), vdepths] at hrel
          have HR := Lib.hid hrel
          clear hrel
          go_wp2
          go_ret
          exact ⟨jtrI (by rw [HD.out, HR.out]; rfl), hbw⟩
    by_cases h5 : kd = 5
    · subst h5
      rw [if_neg (by decide), if_pos rfl] at HD
      clear hI
      go_enter Tryz.func17, Tryz.ntmps17
      go_wp2
      go_loopw [3, 29] (fun a b wr => ∃ i m : Nat, i ≤ mems.length ∧ b = .int .i64 i ∧ a = .int .i64 m ∧ mdepths mems 0 = mdepths (mems.drop i) m ∧ Below w.heap.size w wr) (fun _ b _ => mems.length - (intOf b).toNat)
      case atStart => exact ⟨0, 0, Nat.zero_le _, rfl, rfl, rfl, (Below.refl _ _).alloc (Nat.le_refl _) _⟩
      case round =>
        obtain ⟨i, m, hi, rfl, rfl, hrel, hbw⟩ := hrel
        have hz := hbw.size
        have hdm : m ≤ mdepths mems 0 := by rw [hrel]; exact mdepths_ge _ _
        have hm6 : (m : Int) ≤ 1000000 := by have := HDM.out; omega
        by_cases hlt : i < mems.length
        · have hiz : (i : Int) < (mems.length : Int) := by omega
          obtain ⟨a, p2, c2, q2, d2, rfl, ⟨a8, a0, a1, a2, a3, a4, a5, a6, a7⟩, hk⟩ := (hM.below hbw).cells i hlt
          obtain ⟨k, hkk⟩ : ∃ k, mems[i] = k := ⟨_, rfl⟩
          have hmem : k ∈ mems := by rw [← hkk]; exact List.getElem_mem _
          rw [List.drop_eq_getElem_cons hlt, hkk, mdepths, mdepth_eq] at hrel
          rw [hkk] at hk a0 a1 a2 a3 a4 a5 a6 a7 a8
          obtain ⟨hk1', hk2⟩ := HMM.out k hmem
          have hkd := vdepth_cnt k.v
          obtain ⟨Wt, hWt⟩ : ∃ Wt, Wt = wr.alloc (.cells #[.string k.key, .int .i64 k.v.kind, .bool k.v.b, .int .i64 k.v.n, .string k.v.s, .slice p2 k.v.items.length c2, .slice q2 k.v.mems.length d2, .int .i64 k.v.at', .int .i64 k.at'] 44) := ⟨_, rfl⟩
          have Bt : Below wr.heap.size wr Wt := by rw [hWt]; exact (Below.refl _ _).alloc (Nat.le_refl _) _
          have c1 := jp_Depth f k.v _ Wt hk1' hk2 (hk.below Bt)
          have HBT := Lib.hid (hbw.trans (Bt.mono hz))
          have hzt := Bt.size
          rw [hWt] at c1 HBT hzt
          clear hWt Bt
          generalize k.v.depth = dd at *
          obtain ⟨cc, hcc⟩ : ∃ c, a.add (i * 9) = c := ⟨_, rfl⟩
          rw [hcc] at a0 a1 a2 a3 a4 a5 a6 a7 a8
          simp only [Addr.add, Nat.reduceEqDiff, ↓reduceIte] at a0 a1 a2 a3 a4 a5 a6 a7
          have HR := Lib.hid hrel
          have hdk6 : (dd : Int) ≤ 1000000 := by omega
          clear hrel hM hk hmem hkk HIM HMM
          have HMX := Lib.hid (show ((max m dd : Nat) : Int) = max (m : Int) (dd : Int) by omega)
          go_wp2_with fail
          refine c1.mono ?_
          rintro e w1 ⟨rfl, b1⟩
          go_wp2
          go_roundw
          case rel => exact ⟨i + 1, max m dd, by omega, by go_num, by rw [HMX.out], HR.out, HBT.out.trans (b1.mono (by omega))⟩
          case measure => simp [intOf]; omega
        · obtain rfl : i = mems.length := by omega
          rw [List.drop_eq_nil_of_le (Nat.le_refl _), mdepths] at hrel
          have HR := Lib.hid hrel
          clear hrel
          go_wp2
          go_ret
          exact ⟨jtrI (by rw [HD.out, HR.out]; rfl), hbw⟩
    · rw [if_neg h4, if_neg h5] at HD
      have h4b : (kd == 4) = false := by simpa using h4
      have h5b : (kd == 5) = false := by simpa using h5
      clear hI hM
      go_enter Tryz.func17, Tryz.ntmps17
      go_wp2
      go_ret
      exact ⟨jtrI (by rw [HD.out]; rfl), (Below.refl _ _).alloc (Nat.le_refl _) _⟩
end Go.Proofs.YtkkiklaoljdhhaaGreatDoor
end
