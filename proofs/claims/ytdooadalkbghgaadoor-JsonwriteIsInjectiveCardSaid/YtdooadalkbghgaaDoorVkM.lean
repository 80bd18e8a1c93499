/- Packed from the texts JvB JvG JpQ. -/
import Derived.Test.YtdooadalkbghgaaDoorVkJ
import Derived.Deep.QuietTactic
import Derived.BigQuiet
import Derived.WalkSmall
section
namespace Go.Proofs.YtdooadalkbghgaaDoor
open Go.RowKit
theorem vdepths_ge : ∀ (l : List ValD) (m : Nat), m ≤ vdepths l m
  | [], m => by rw [vdepths]; exact Nat.le_refl _
  | k :: r, m => by
    rw [vdepths]
    exact Nat.le_trans (Nat.le_max_left _ _) (vdepths_ge r _)
theorem mdepths_ge : ∀ (l : List MemD) (m : Nat), m ≤ mdepths l m
  | [], m => by rw [mdepths]; exact Nat.le_refl _
  | k :: r, m => by
    rw [mdepths]
    exact Nat.le_trans (Nat.le_max_left _ _) (mdepths_ge r _)
mutual
theorem vdepth_cnt : ∀ n : ValD, n.depth ≤ n.cnt
  | .mk kind b n s items mems at' => by
    rw [ValD.depth, ValD.cnt]
    have h1 := vdepths_cnt items 0
    have h2 := mdepths_cnt mems 0
    split
    · omega
    · split <;> omega
theorem vdepths_cnt : ∀ (l : List ValD) (m : Nat), vdepths l m ≤ m + vcnts l
  | [], m => by rw [vdepths]; omega
  | k :: r, m => by
    rw [vdepths, vcnts]
    have h1 := vdepth_cnt k
    have h2 := vdepths_cnt r (max m k.depth)
    omega
theorem mdepths_cnt : ∀ (l : List MemD) (m : Nat), mdepths l m ≤ m + mcnts l
  | [], m => by rw [mdepths]; omega
  | k :: r, m => by
    rw [mdepths, mcnts]
    have h1 := mdepth_cnt k
    have h2 := mdepths_cnt r (max m k.depth)
    omega
theorem mdepth_cnt : ∀ n : MemD, n.depth ≤ n.cnt
  | .mk key v at' => by
    rw [MemD.depth, MemD.cnt]
    exact vdepth_cnt v
end
theorem jtrI {a b : Int} (h : a = b) : Ending.returned (.int .i64 a) = .returned (.int .i64 b) := by rw [h]
set_option maxRecDepth 100000 in
set_option maxHeartbeats 16000000 in
theorem jref_Depth : ∀ (f : Nat) (n : ValD) (v : Value) (w : World), n.cnt ≤ f → n.cnt ≤ 1000000 → ValIs w n v → Calls Tryd.prog 31 #[v] w fun e w' => e = .returned (.int .i64 (n.depth : Nat)) ∧ Below w.heap.size w w'
  | 0, n, _, _, hf, _, _ => absurd hf (by have := vcnt_eq n; omega)
  | f + 1, n, v, w, hf, hc, hn => by
    have HD := Lib.hid (vdepth_eq n)
    have hce := vcnt_eq n
    have HIM := Lib.hid (fun (k : ValD) (hk : k ∈ n.items) => show k.cnt ≤ f ∧ k.cnt ≤ 1000000 by have := vcnt_item n k hk; omega)
    have HMM := Lib.hid (fun (k : MemD) (hk : k ∈ n.mems) => show k.v.cnt ≤ f ∧ k.v.cnt ≤ 1000000 by have := vcnt_mem n k hk; omega)
    have hdi : vdepths n.items 0 ≤ 1000000 := by have := vdepths_cnt n.items 0; omega
    have hdm : mdepths n.mems 0 ≤ 1000000 := by have := mdepths_cnt n.mems 0; omega
    have hil : (n.items.length : Int) ≤ 1000000 := by have := vcnts_len n.items; omega
    have hml : (n.mems.length : Int) ≤ 1000000 := by have := mcnts_len n.mems; omega
    obtain ⟨p, c, q, d, rfl, hI, hM⟩ := (val_is w n v).1 hn
    clear hn hf hce
    generalize n.kind = kd at *
    generalize n.items = items at *
    generalize n.mems = mems at *
    have HDI := Lib.hid hdi
    have HDM := Lib.hid hdm
    clear hdi hdm
    have f0 : (w.alloc (.cells #[.int .i64 kd, .bool n.b, .int .i64 n.n, .string n.s, .slice p items.length c, .slice q mems.length d, .int .i64 n.at'] 25)).cell? ⟨w.heap.size, 0, none⟩ = some (.int .i64 kd) := by simp
    have f4 : (w.alloc (.cells #[.int .i64 kd, .bool n.b, .int .i64 n.n, .string n.s, .slice p items.length c, .slice q mems.length d, .int .i64 n.at'] 25)).cell? ⟨w.heap.size, 4, none⟩ = some (.slice p items.length c) := by simp
    have f5 : (w.alloc (.cells #[.int .i64 kd, .bool n.b, .int .i64 n.n, .string n.s, .slice p items.length c, .slice q mems.length d, .int .i64 n.at'] 25)).cell? ⟨w.heap.size, 5, none⟩ = some (.slice q mems.length d) := by simp
    have hbw : Below w.heap.size w (w.alloc (.cells #[.int .i64 kd, .bool n.b, .int .i64 n.n, .string n.s, .slice p items.length c, .slice q mems.length d, .int .i64 n.at'] 25)) := (Below.refl _ _).alloc (Nat.le_refl _) _
    have hz0 : (w.alloc (.cells #[.int .i64 kd, .bool n.b, .int .i64 n.n, .string n.s, .slice p items.length c, .slice q mems.length d, .int .i64 n.at'] 25)).heap.size = w.heap.size + 1 := by simp
    go_enter Tryd.func31, Tryd.ntmps31
    go_wp2
    generalize (w.alloc (.cells #[.int .i64 kd, .bool n.b, .int .i64 n.n, .string n.s, .slice p items.length c, .slice q mems.length d, .int .i64 n.at'] 25)) = W0 at *
    go_loopw [3, 4] (fun a b wr => ∃ i m : Nat, i ≤ items.length ∧ b = .int .i64 i ∧ a = .int .i64 m ∧ (if kd = 4 then vdepths items 0 = vdepths (items.drop i) m else i = 0 ∧ m = 0) ∧ Below (w.heap.size + 1) W0 wr) (fun _ b _ => items.length - (intOf b).toNat)
    case atStart => exact ⟨0, 0, Nat.zero_le _, rfl, rfl, by split <;> simp, Below.refl _ _⟩
    case round =>
      obtain ⟨i, m, hi, rfl, rfl, hrel, hbel⟩ := hrel
      have hz : w.heap.size + 1 ≤ wr.heap.size := by have := hbel.size; omega
      have hbo : Below w.heap.size w wr := hbw.trans (hbel.mono (by omega))
      have g0 := (hbel.cell (p := ⟨w.heap.size, 0, none⟩) (Nat.lt_succ_self _)).trans f0
      have g4 := (hbel.cell (p := ⟨w.heap.size, 4, none⟩) (Nat.lt_succ_self _)).trans f4
      have g5 := (hbel.cell (p := ⟨w.heap.size, 5, none⟩) (Nat.lt_succ_self _)).trans f5
      by_cases hgo : i < items.length ∧ kd = 4
      · obtain ⟨hlt, rfl⟩ := hgo
        rw [if_pos rfl] at hrel
        have hdm' : m ≤ vdepths items 0 := by rw [hrel]; exact vdepths_ge _ _
        have hm6 : (m : Int) ≤ 1000000 := by have := HDI.out; omega
        have hiz : (i : Int) < (items.length : Int) := by omega
        obtain ⟨a, v0, v1, v2, v3, v4, v5, v6, rfl, ⟨a0, a1, a2, a3, a4, a5, a6⟩, hk⟩ := ItemsAt.get items 0 (hI.below hbo) i hlt
        rw [Nat.zero_add] at a0 a1 a2 a3 a4 a5 a6
        obtain ⟨k, hkk⟩ : ∃ k, items[i] = k := ⟨_, rfl⟩
        have hmem : k ∈ items := by rw [← hkk]; exact List.getElem_mem _
        rw [List.drop_eq_getElem_cons hlt, hkk, vdepths] at hrel
        rw [hkk] at hk
        obtain ⟨hk1, hk2⟩ := HIM.out k hmem
        have hkd := vdepth_cnt k
        have c1 := jref_Depth f k _ wr hk1 hk2 hk
        generalize k.depth = dk at *
        obtain ⟨cc, hcc⟩ : ∃ c, a.add (i * 7) = c := ⟨_, rfl⟩
        rw [hcc] at a0 a1 a2 a3 a4 a5 a6
        simp only [Addr.add, Nat.reduceEqDiff, ↓reduceIte] at a1 a2 a3 a4 a5 a6
        have hdk6 : (dk : Int) ≤ 1000000 := by omega
        have HR := Lib.hid hrel
        have HMX := Lib.hid (show ((max m dk : Nat) : Int) = max (m : Int) (dk : Int) by omega)
        clear hrel hI hM hk hmem hkk f0 f4 f5 hbo
        go_wp2_with fail
        refine c1.mono ?_
        rintro e w1 ⟨rfl, b1⟩
        go_wp2
        go_roundw
        case rel => exact ⟨i + 1, max m dk, by omega, by go_num, by rw [HMX.out], HR.out, hbel.trans (b1.mono hz)⟩
        case measure => simp [intOf]; omega
      · -- the first loop ends
        have hd1 : (if kd = 4 then vdepths items 0 else 0) = m := by
          split at hrel
          · obtain rfl : i = items.length := by
              rename_i hk4
              have : ¬ i < items.length := fun h => hgo ⟨h, hk4⟩
              omega
            rw [List.drop_eq_nil_of_le (Nat.le_refl _), vdepths] at hrel
            rename_i hk4
            rw [if_pos hk4, hrel]
          · rename_i hk4
            rw [if_neg hk4]
            exact hrel.2.symm
        have hm6 : (m : Int) ≤ 1000000 := by
          have := HDI.out
          split at hd1 <;> omega
        have H1 := Lib.hid hd1
        have hk4 : (i : Int) < (items.length : Int) → (kd == 4) = false := fun h => by
          have : ¬ kd = 4 := fun h4 => hgo ⟨by omega, h4⟩
          simpa using this
        obtain ⟨wo, rfl⟩ : ∃ wo, wo = wr := ⟨_, rfl⟩
        have HBO := Lib.hid hbo
        have HMA := Lib.hid (hM.below hbo)
        clear hrel hd1 hgo hI hM f0 f4 f5 hbo hbel hbw
        have key : ∀ (wr : World) (j m2 : Nat), j ≤ mems.length → (if kd = 5 then mdepths mems m = mdepths (mems.drop j) m2 else j = 0 ∧ m2 = m) → ¬ (j < mems.length ∧ kd = 5) → (if kd = 4 then vdepths items 0 else if kd = 5 then mdepths mems 0 else 0) + 1 = m2 + 1 := fun wr j m2 hj hr hg => by
          have := H1.out
          by_cases h5 : kd = 5
          · subst h5
            rw [if_pos rfl] at hr
            obtain rfl : j = mems.length := by
              have : ¬ j < mems.length := fun h => hg ⟨h, rfl⟩
              omega
            rw [List.drop_eq_nil_of_le (Nat.le_refl _), mdepths] at hr
            rw [if_neg (by decide)] at this
            rw [if_neg (by decide), if_pos rfl, this, hr]
          · rw [if_neg h5] at hr
            rw [if_neg h5, this, hr.2]
        have KEY := Lib.hid key
        clear key
        have hma : (kd = 5 → m = 0) := fun h => by
          have := H1.out
          rw [if_neg (by omega)] at this
          exact this.symm
        have HMA0 := Lib.hid hma
        clear hma
        have tail : ∀ hh : Prop, hh → hh := fun _ h => h
        by_cases hlt : (i : Int) < (items.length : Int)
        · have hk4' := hk4 hlt
          clear hk4
          go_wp2
          go_loopw [3, 5] (fun a b wr => ∃ j m2 : Nat, j ≤ mems.length ∧ b = .int .i64 j ∧ a = .int .i64 m2 ∧ (if kd = 5 then mdepths mems m = mdepths (mems.drop j) m2 else j = 0 ∧ m2 = m) ∧ Below wo.heap.size wo wr) (fun _ b _ => mems.length - (intOf b).toNat)
          case atStart => exact ⟨0, m, Nat.zero_le _, rfl, rfl, by split <;> simp, Below.refl _ _⟩
          case round =>
            obtain ⟨j, m2, hj, rfl, rfl, hr, hb2⟩ := hrel
            have z2 := hb2.size
            have e0 := (hb2.cell (p := ⟨w.heap.size, 0, none⟩) (by show w.heap.size < _; omega)).trans g0
            have e5 := (hb2.cell (p := ⟨w.heap.size, 5, none⟩) (by show w.heap.size < _; omega)).trans g5
            have hm26 : (m2 : Int) ≤ 1000000 := by
              have hma := HMA0.out
              by_cases h5 : kd = 5
              · rw [if_pos h5, hma h5] at hr
                have := mdepths_ge (mems.drop j) m2
                have := HDM.out
                omega
              · rw [if_neg h5] at hr
                omega
            by_cases hgo2 : j < mems.length ∧ kd = 5
            · obtain ⟨hlt2, rfl⟩ := hgo2
              rw [if_pos rfl] at hr
              have hjz : (j : Int) < (mems.length : Int) := by omega
              obtain ⟨a, v0, v1, v2, v3, v4, v5, v6, rfl, ⟨-, a0, a1, a2, a3, a4, a5, a6, -⟩, hk⟩ := MemsAt.get mems 0 (HMA.out.below hb2) j hlt2
              rw [Nat.zero_add] at a0 a1 a2 a3 a4 a5 a6
              obtain ⟨k, hkk⟩ : ∃ k, mems[j] = k := ⟨_, rfl⟩
              have hmem : k ∈ mems := by rw [← hkk]; exact List.getElem_mem _
              rw [List.drop_eq_getElem_cons hlt2, hkk, mdepths, mdepth_eq] at hr
              rw [hkk] at hk
              obtain ⟨hk1, hk2⟩ := HMM.out k hmem
              have hkd := vdepth_cnt k.v
              have c1 := jref_Depth f k.v _ wr hk1 hk2 hk
              generalize k.v.depth = dk at *
              obtain ⟨cc, hcc⟩ : ∃ c, a.add (j * 9) = c := ⟨_, rfl⟩
              rw [hcc] at a0 a1 a2 a3 a4 a5 a6
              simp only [Addr.add, Nat.reduceEqDiff, ↓reduceIte] at a0 a1 a2 a3 a4 a5 a6
              have hdk6 : (dk : Int) ≤ 1000000 := by omega
              have HR := Lib.hid hr
              have HMX := Lib.hid (show ((max m2 dk : Nat) : Int) = max (m2 : Int) (dk : Int) by omega)
              clear hr hk hmem hkk
              go_wp2_with fail
              refine c1.mono ?_
              rintro e w1 ⟨rfl, b1⟩
              go_wp2
              go_roundw
              case rel => exact ⟨j + 1, max m2 dk, by omega, by go_num, by rw [HMX.out], by first | exact HR.out | (rw [if_pos rfl]; exact HR.out), hb2.trans (b1.mono z2)⟩
              case measure => simp [intOf]; omega
            · have HKE := Lib.hid (KEY.out wr j m2 hj hr hgo2)
              have hk5 : (j : Int) < (mems.length : Int) → (kd == 5) = false := fun h => by
                have : ¬ kd = 5 := fun h5 => hgo2 ⟨by omega, h5⟩
                simpa using this
              clear hr hgo2
              by_cases hlt2 : (j : Int) < (mems.length : Int)
              · have hk5' := hk5 hlt2
                clear hk5
                go_wp2
                go_ret
                exact ⟨jtrI (by rw [HD.out, HKE.out]; rfl), HBO.out.trans (hb2.mono HBO.out.size)⟩
              · clear hk5
                go_wp2
                go_ret
                exact ⟨jtrI (by rw [HD.out, HKE.out]; rfl), HBO.out.trans (hb2.mono HBO.out.size)⟩
        · clear hk4
          go_wp2
          go_loopw [3, 5] (fun a b wr => ∃ j m2 : Nat, j ≤ mems.length ∧ b = .int .i64 j ∧ a = .int .i64 m2 ∧ (if kd = 5 then mdepths mems m = mdepths (mems.drop j) m2 else j = 0 ∧ m2 = m) ∧ Below wo.heap.size wo wr) (fun _ b _ => mems.length - (intOf b).toNat)
          case atStart => exact ⟨0, m, Nat.zero_le _, rfl, rfl, by split <;> simp, Below.refl _ _⟩
          case round =>
            obtain ⟨j, m2, hj, rfl, rfl, hr, hb2⟩ := hrel
            have z2 := hb2.size
            have e0 := (hb2.cell (p := ⟨w.heap.size, 0, none⟩) (by show w.heap.size < _; omega)).trans g0
            have e5 := (hb2.cell (p := ⟨w.heap.size, 5, none⟩) (by show w.heap.size < _; omega)).trans g5
            have hm26 : (m2 : Int) ≤ 1000000 := by
              have hma := HMA0.out
              by_cases h5 : kd = 5
              · rw [if_pos h5, hma h5] at hr
                have := mdepths_ge (mems.drop j) m2
                have := HDM.out
                omega
              · rw [if_neg h5] at hr
                omega
            by_cases hgo2 : j < mems.length ∧ kd = 5
            · obtain ⟨hlt2, rfl⟩ := hgo2
              rw [if_pos rfl] at hr
              have hjz : (j : Int) < (mems.length : Int) := by omega
              obtain ⟨a, v0, v1, v2, v3, v4, v5, v6, rfl, ⟨-, a0, a1, a2, a3, a4, a5, a6, -⟩, hk⟩ := MemsAt.get mems 0 (HMA.out.below hb2) j hlt2
              rw [Nat.zero_add] at a0 a1 a2 a3 a4 a5 a6
              obtain ⟨k, hkk⟩ : ∃ k, mems[j] = k := ⟨_, rfl⟩
              have hmem : k ∈ mems := by rw [← hkk]; exact List.getElem_mem _
              rw [List.drop_eq_getElem_cons hlt2, hkk, mdepths, mdepth_eq] at hr
              rw [hkk] at hk
              obtain ⟨hk1, hk2⟩ := HMM.out k hmem
              have hkd := vdepth_cnt k.v
              have c1 := jref_Depth f k.v _ wr hk1 hk2 hk
              generalize k.v.depth = dk at *
              obtain ⟨cc, hcc⟩ : ∃ c, a.add (j * 9) = c := ⟨_, rfl⟩
              rw [hcc] at a0 a1 a2 a3 a4 a5 a6
              simp only [Addr.add, Nat.reduceEqDiff, ↓reduceIte] at a0 a1 a2 a3 a4 a5 a6
              have hdk6 : (dk : Int) ≤ 1000000 := by omega
              have HR := Lib.hid hr
              have HMX := Lib.hid (show ((max m2 dk : Nat) : Int) = max (m2 : Int) (dk : Int) by omega)
              clear hr hk hmem hkk
              go_wp2_with fail
              refine c1.mono ?_
              rintro e w1 ⟨rfl, b1⟩
              go_wp2
              go_roundw
              case rel => exact ⟨j + 1, max m2 dk, by omega, by go_num, by rw [HMX.out], by first | exact HR.out | (rw [if_pos rfl]; exact HR.out), hb2.trans (b1.mono z2)⟩
              case measure => simp [intOf]; omega
            · have HKE := Lib.hid (KEY.out wr j m2 hj hr hgo2)
              have hk5 : (j : Int) < (mems.length : Int) → (kd == 5) = false := fun h => by
                have : ¬ kd = 5 := fun h5 => hgo2 ⟨by omega, h5⟩
                simpa using this
              clear hr hgo2
              by_cases hlt2 : (j : Int) < (mems.length : Int)
              · have hk5' := hk5 hlt2
                clear hk5
                go_wp2
                go_ret
                exact ⟨jtrI (by rw [HD.out, HKE.out]; rfl), HBO.out.trans (hb2.mono HBO.out.size)⟩
              · clear hk5
                go_wp2
                go_ret
                exact ⟨jtrI (by rw [HD.out, HKE.out]; rfl), HBO.out.trans (hb2.mono HBO.out.size)⟩
end Go.Proofs.YtdooadalkbghgaaDoor
end
section
namespace Go.Proofs.YtdooadalkbghgaaDoor
open Go.RowKit
theorem jstr_ne3 {a b : ByteArray} (h : a ≠ b) : ¬ a.toList = b.toList := by
  intro e
  apply h
  rw [ByteArray.toList_eq, ByteArray.toList_eq] at e
  cases a; cases b; simp at e; simp [e]
theorem jstr_ne2 {a b : ByteArray} (h : a ≠ b) : (a.toList == b.toList) = false := beq_eq_false_iff_ne.2 (jstr_ne3 h)
theorem jstr_ne {a b : ByteArray} (h : a ≠ b) : (a.toList != b.toList) = true := by
  rw [bne_iff_ne]
  exact jstr_ne3 h
end Go.Proofs.YtdooadalkbghgaaDoor
end
section
namespace Go.Proofs.YtdooadalkbghgaaDoor
open Go.RowKit
theorem ItemsAt.cells {w : World} {pp : Option Addr} {l : List ValD} (h : ItemsAt w pp 0 l) (i : Nat) (hi : i < l.length) : ∃ a p c q d, pp = some a ∧ (w.cell? (a.add (i * 7)) = some (.int .i64 l[i].kind) ∧ w.cell? ((a.add (i * 7)).add 1) = some (.bool l[i].b) ∧ w.cell? ((a.add (i * 7)).add 2) = some (.int .i64 l[i].n) ∧ w.cell? ((a.add (i * 7)).add 3) = some (.string l[i].s) ∧ w.cell? ((a.add (i * 7)).add 4) = some (.slice p l[i].items.length c) ∧ w.cell? ((a.add (i * 7)).add 5) = some (.slice q l[i].mems.length d) ∧ w.cell? ((a.add (i * 7)).add 6) = some (.int .i64 l[i].at')) ∧ ValIs w l[i] (.agg #[.int .i64 l[i].kind, .bool l[i].b, .int .i64 l[i].n, .string l[i].s, .slice p l[i].items.length c, .slice q l[i].mems.length d, .int .i64 l[i].at']) := by
  obtain ⟨a, v0, v1, v2, v3, v4, v5, v6, hp, hc, hn⟩ := ItemsAt.get l 0 h i hi
  rw [Nat.zero_add] at hc
  have hn' := hn
  rw [val_is] at hn
  obtain ⟨p, c, q, d, he, _, _⟩ := hn
  simp only [Value.agg.injEq, Array.mk.injEq, List.cons.injEq, and_true] at he
  obtain ⟨rfl, rfl, rfl, rfl, rfl, rfl, rfl⟩ := he
  exact ⟨a, p, c, q, d, hp, hc, hn'⟩
theorem MemsAt.cells {w : World} {pp : Option Addr} {l : List MemD} (h : MemsAt w pp 0 l) (i : Nat) (hi : i < l.length) : ∃ a p c q d, pp = some a ∧ (w.cell? (a.add (i * 9)) = some (.string l[i].key) ∧ w.cell? ((a.add (i * 9)).add 1) = some (.int .i64 l[i].v.kind) ∧ w.cell? ((a.add (i * 9)).add 2) = some (.bool l[i].v.b) ∧ w.cell? ((a.add (i * 9)).add 3) = some (.int .i64 l[i].v.n) ∧ w.cell? ((a.add (i * 9)).add 4) = some (.string l[i].v.s) ∧ w.cell? ((a.add (i * 9)).add 5) = some (.slice p l[i].v.items.length c) ∧ w.cell? ((a.add (i * 9)).add 6) = some (.slice q l[i].v.mems.length d) ∧ w.cell? ((a.add (i * 9)).add 7) = some (.int .i64 l[i].v.at') ∧ w.cell? ((a.add (i * 9)).add 8) = some (.int .i64 l[i].at')) ∧ ValIs w l[i].v (.agg #[.int .i64 l[i].v.kind, .bool l[i].v.b, .int .i64 l[i].v.n, .string l[i].v.s, .slice p l[i].v.items.length c, .slice q l[i].v.mems.length d, .int .i64 l[i].v.at']) := by
  obtain ⟨a, v0, v1, v2, v3, v4, v5, v6, hp, hc, hn⟩ := MemsAt.get l 0 h i hi
  rw [Nat.zero_add] at hc
  have hn' := hn
  rw [val_is] at hn
  obtain ⟨p, c, q, d, he, _, _⟩ := hn
  simp only [Value.agg.injEq, Array.mk.injEq, List.cons.injEq, and_true] at he
  obtain ⟨rfl, rfl, rfl, rfl, rfl, rfl, rfl⟩ := he
  exact ⟨a, p, c, q, d, hp, hc, hn'⟩
end Go.Proofs.YtdooadalkbghgaaDoor
end
