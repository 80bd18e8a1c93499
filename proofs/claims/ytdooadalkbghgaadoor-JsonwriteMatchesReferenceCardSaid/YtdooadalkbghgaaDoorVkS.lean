/- Packed from the texts JzA. -/
import Derived.Test.YtdooadalkbghgaaDoorVkM
section
namespace Go.Proofs.YtdooadalkbghgaaDoor
open Go.RowKit
def mnj (s : ByteArray) : Nat := min s.size 9000
theorem mnj_le (s : ByteArray) : mnj s ≤ 9000 := Nat.min_le_right _ _
mutual
def ValD.wgt : ValD → Nat → Nat
  | .mk _ _ _ s items mems _, T => wgtMs mems (wgtVs items (T + (1 + mnj s)))
def wgtVs : List ValD → Nat → Nat
  | [], T => T
  | k :: r, T => if 9000 < T then T else wgtVs r (k.wgt T)
def wgtMs : List MemD → Nat → Nat
  | [], T => T
  | k :: r, T => if 9000 < T then T else wgtMs r (k.wgt T)
def MemD.wgt : MemD → Nat → Nat
  | .mk key v _, T => v.wgt (T + mnj key)
end
theorem vwgt_eq (n : ValD) (T : Nat) : n.wgt T = wgtMs n.mems (wgtVs n.items (T + (1 + mnj n.s))) := by cases n; rw [ValD.wgt]; rfl
theorem mwgt_eq (m : MemD) (T : Nat) : m.wgt T = m.v.wgt (T + mnj m.key) := by cases m; rw [MemD.wgt]; rfl
mutual
def ValD.WF : ValD → Prop
  | .mk _ _ _ _ items mems _ => items.length ≤ 140737488351232 ∧ mems.length ≤ 140737488351232 ∧ VWFs items ∧ MWFs mems
def VWFs : List ValD → Prop
  | [] => True
  | k :: r => k.WF ∧ VWFs r
def MWFs : List MemD → Prop
  | [] => True
  | k :: r => k.WF ∧ MWFs r
def MemD.WF : MemD → Prop
  | .mk _ v _ => v.WF
end
theorem vwf_eq (n : ValD) : n.WF ↔ n.items.length ≤ 140737488351232 ∧ n.mems.length ≤ 140737488351232 ∧ VWFs n.items ∧ MWFs n.mems := by cases n; rw [ValD.WF]; exact Iff.rfl
theorem mwf_eq (m : MemD) : m.WF ↔ m.v.WF := by cases m; rw [MemD.WF]; exact Iff.rfl
theorem vwfs_mem : ∀ (l : List ValD), VWFs l → ∀ k ∈ l, k.WF
  | [], _, _, h => by cases h
  | x :: r, h, k, hk => by
    rw [VWFs] at h
    rcases List.mem_cons.1 hk with rfl | hk
    · exact h.1
    · exact vwfs_mem r h.2 k hk
theorem mwfs_mem : ∀ (l : List MemD), MWFs l → ∀ k ∈ l, k.v.WF
  | [], _, _, h => by cases h
  | x :: r, h, k, hk => by
    rw [MWFs] at h
    rcases List.mem_cons.1 hk with rfl | hk
    · exact (mwf_eq _).1 h.1
    · exact mwfs_mem r h.2 k hk
mutual
theorem vwgt_le : ∀ (n : ValD) (T : Nat), T ≤ 18000 → n.wgt T ≤ 27001
  | .mk k b n s items mems a, T, hT => by
    rw [ValD.wgt]
    have h1 := mnj_le s
    exact wgtMs_le mems _ (wgtVs_le items _ (by omega))
theorem wgtVs_le : ∀ (l : List ValD) (T : Nat), T ≤ 27001 → wgtVs l T ≤ 27001
  | [], T, hT => hT
  | k :: r, T, hT => by
    rw [wgtVs]
    split
    · exact hT
    · exact wgtVs_le r _ (vwgt_le k T (by omega))
theorem wgtMs_le : ∀ (l : List MemD) (T : Nat), T ≤ 27001 → wgtMs l T ≤ 27001
  | [], T, hT => hT
  | k :: r, T, hT => by
    rw [wgtMs]
    split
    · exact hT
    · exact wgtMs_le r _ (mwgt_le k T (by omega))
theorem mwgt_le : ∀ (m : MemD) (T : Nat), T ≤ 9000 → m.wgt T ≤ 27001
  | .mk key v a, T, hT => by
    rw [MemD.wgt]
    have h1 := mnj_le key
    exact vwgt_le v _ (by omega)
end
theorem wgtMs_big (l : List MemD) (T : Nat) (h : 9000 < T) : wgtMs l T = T := by
  cases l with
  | nil => rw [wgtMs]
  | cons k r => rw [wgtMs, if_pos h]
theorem wgtVs_drop (l : List ValD) (i : Nat) (h : i < l.length) (T : Nat) : wgtVs (l.drop i) T = if 9000 < T then T else wgtVs (l.drop (i + 1)) (l[i].wgt T) := by
  rw [List.drop_eq_getElem_cons h, wgtVs]
theorem wgtMs_drop (l : List MemD) (i : Nat) (h : i < l.length) (T : Nat) : wgtMs (l.drop i) T = if 9000 < T then T else wgtMs (l.drop (i + 1)) (l[i].wgt T) := by
  rw [List.drop_eq_getElem_cons h, wgtMs]
theorem wrapJ {x : Int} (h0 : 0 ≤ x) (h1 : x ≤ 9000000000000000000) : IntKind.i64.wrap x = x := wrap_small x (by omega) (by omega)
set_option maxRecDepth 100000 in
set_option maxHeartbeats 16000000 in
theorem law_weightJ : ∀ (f : Nat) (n : ValD) (v : Value) (T : Nat) (w : World), n.cnt ≤ f → n.WF → T ≤ 18000 → ValIs w n v → Calls Tryd.prog 21 #[v, .int .i64 (T : Int)] w fun e w' => e = .returned (.int .i64 (n.wgt T : Nat)) ∧ Below w.heap.size w w'
  | 0, n, _, _, _, hf, _, _, _ => absurd hf (by have := vcnt_eq n; omega)
  | f + 1, n, v, T, w, hf, hW, hT, hn => by
    have HD := Lib.hid (vwgt_eq n T)
    have hwf := (vwf_eq n).1 hW
    have HIM := Lib.hid (fun k (hk : k ∈ n.items) => show k.cnt ≤ f ∧ k.WF from ⟨by have := vcnt_item n k hk; omega, vwfs_mem _ hwf.2.2.1 k hk⟩)
    have HMM := Lib.hid (fun m (hm : m ∈ n.mems) => show m.v.cnt ≤ f ∧ m.v.WF from ⟨by have := vcnt_mem n m hm; omega, mwfs_mem _ hwf.2.2.2 m hm⟩)
    have hil : (n.items.length : Int) ≤ 140737488351232 := by have := hwf.1; omega
    have hml : (n.mems.length : Int) ≤ 140737488351232 := by have := hwf.2.1; omega
    obtain ⟨p, c, q, d, rfl, hI, hM⟩ := (val_is w n v).1 hn
    have h1 := mnj_le n.s
    have m1 : min (n.s.size : Int) 9000 = (mnj n.s : Int) := by unfold mnj; omega
    clear hn hf hwf hW
    generalize mnj n.s = y1 at *
    generalize n.items = items at *
    generalize n.mems = mems at *
    have f15 : (w.alloc (.cells #[.int .i64 n.kind, .bool n.b, .int .i64 n.n, .string n.s, .slice p items.length c, .slice q mems.length d, .int .i64 n.at'] 25)).cell? ⟨w.heap.size, 5, none⟩ = some (.slice q mems.length d) := by simp
    have hbw0 : Below w.heap.size w (w.alloc (.cells #[.int .i64 n.kind, .bool n.b, .int .i64 n.n, .string n.s, .slice p items.length c, .slice q mems.length d, .int .i64 n.at'] 25)) := (Below.refl _ _).alloc (Nat.le_refl _) _
    have hz0 : (w.alloc (.cells #[.int .i64 n.kind, .bool n.b, .int .i64 n.n, .string n.s, .slice p items.length c, .slice q mems.length d, .int .i64 n.at'] 25)).heap.size = w.heap.size + 1 := by simp
    have w1 : IntKind.i64.wrap (1 + (y1 : Int)) = 1 + y1 := wrapJ (by omega) (by omega)
    have w2 : IntKind.i64.wrap ((T : Int) + (1 + (y1 : Int))) = (T : Int) + (1 + (y1 : Int)) := wrapJ (by omega) (by omega)
    go_enter Tryd.func21, Tryd.ntmps21
    go_wp2
    generalize (w.alloc (.cells #[.int .i64 n.kind, .bool n.b, .int .i64 n.n, .string n.s, .slice p items.length c, .slice q mems.length d, .int .i64 n.at'] 25)) = W0 at *
    have hT0 : T + (1 + y1) ≤ 27001 := by omega
    have HST := Lib.hid (show (T : Int) + (1 + (y1 : Int)) = ((T + (1 + y1) : Nat) : Int) by omega)
    generalize hTT : T + (1 + y1) = T1 at *
    have HT1 := Lib.hid hT0
    clear hTT w1 w2 m1 h1 hT0
    go_loopw [1, 19] (fun b x wr => ∃ (i S : Nat), i ≤ items.length ∧ x = .int .i64 i ∧ b = .int .i64 S ∧ S ≤ 27001 ∧ wgtVs items T1 = wgtVs (items.drop i) S ∧ Below (w.heap.size + 1) W0 wr) (fun _ x _ => items.length - (intOf x).toNat)
    case atStart => exact ⟨0, T1, Nat.zero_le _, rfl, by rw [HST.out], HT1.out, rfl, Below.refl _ _⟩
    case round =>
      obtain ⟨i, S, hi, rfl, rfl, hS, hrel, hbel⟩ := hrel
      obtain ⟨wo, rfl⟩ : ∃ wo, wo = wr := ⟨_, rfl⟩
      have hzo : w.heap.size + 1 ≤ wo.heap.size := by have := hbel.size; omega
      have hbo : Below w.heap.size w wo := hbw0.trans (hbel.mono (by omega))
      have HS := Lib.hid hS
      clear hS
      by_cases hlt : i < items.length
      case pos =>
        have hiz : (i : Int) < (items.length : Int) := by omega
        obtain ⟨a, p2, c2, q2, d2, rfl, ⟨a0, a1, a2, a3, a4, a5, a6⟩, hk⟩ := (hI.below hbo).cells i hlt
        rw [wgtVs_drop items i hlt] at hrel
        obtain ⟨k, hkk⟩ : ∃ k, items[i] = k := ⟨_, rfl⟩
        have hmem : k ∈ items := by rw [← hkk]; exact List.getElem_mem _
        rw [hkk] at hk a0 a1 a2 a3 a4 a5 a6 hrel
        obtain ⟨hk1, hk2⟩ := HIM.out k hmem
        obtain ⟨Wt, hWt⟩ : ∃ Wt, Wt = wo.alloc (.cells #[.int .i64 k.kind, .bool k.b, .int .i64 k.n, .string k.s, .slice p2 k.items.length c2, .slice q2 k.mems.length d2, .int .i64 k.at'] 25) := ⟨_, rfl⟩
        have Bt : Below wo.heap.size wo Wt := by rw [hWt]; exact (Below.refl _ _).alloc (Nat.le_refl _) _
        have c1 : S ≤ 9000 → _ := fun hR => law_weightJ f k _ S Wt hk1 hk2 (by omega) (hk.below Bt)
        have HBT := Lib.hid (hbel.trans (Bt.mono hzo))
        have HBW := Lib.hid (hbo.trans (Bt.mono (by omega)))
        have hzt := Bt.size
        rw [hWt] at c1 HBT HBW hzt
        have HKW := Lib.hid (fun hR : S ≤ 9000 => vwgt_le k S (by omega))
        clear hWt Bt hkk
        generalize k.wgt S = zb at *
        obtain ⟨cc, hcc⟩ : ∃ c, a.add (i * 7) = c := ⟨_, rfl⟩
        rw [hcc] at a0 a1 a2 a3 a4 a5 a6
        simp only [Addr.add, Nat.reduceEqDiff, ↓reduceIte] at a1 a2 a3 a4 a5 a6
        by_cases hR9 : 9000 < S
        · rw [if_pos hR9] at hrel
          have hR9z : (9000 : Int) < (S : Int) := by omega
          have HN := Lib.hid (show n.wgt T = S by rw [HD.out, hrel, wgtMs_big _ _ hR9])
          clear hrel hI hM hk hmem c1 HIM HMM f15
          go_wp2
          go_ret
          exact ⟨jtrI (by rw [HN.out]), HBW.out⟩
        · rw [if_neg hR9] at hrel
          have hR9z : ¬ (9000 : Int) < (S : Int) := by omega
          have HN := Lib.hid hrel
          have HZM := Lib.hid (HKW.out (by omega))
          have c2' := c1 (by omega)
          clear hrel hI hM hk hmem HIM HMM HKW c1 f15
          go_wp2_with fail
          refine c2'.mono ?_
          rintro e w5 ⟨rfl, b5⟩
          go_wp2
          go_roundw
          case rel => exact ⟨i + 1, zb, by omega, by go_num, rfl, HZM.out, HN.out, HBT.out.trans (b5.mono (by omega))⟩
          case measure => simp [intOf]; omega
      case neg =>
        obtain rfl : i = items.length := by omega
        have XHB := Lib.hid (show wgtVs items T1 = S by rw [hrel, List.drop_eq_nil_of_le (Nat.le_refl _), wgtVs])
        have g15 := (hbel.cell (p := ⟨w.heap.size, 5, none⟩) (by show w.heap.size < _; omega)).trans f15
        have hiz : ¬ (items.length : Int) < (items.length : Int) := by omega
        clear hrel hI f15 HIM
        go_wp2
        go_loopw [1, 33] (fun b x wr => ∃ (j R : Nat), j ≤ mems.length ∧ x = .int .i64 j ∧ b = .int .i64 R ∧ R ≤ 27001 ∧ wgtMs mems S = wgtMs (mems.drop j) R ∧ Below (w.heap.size + 1) W0 wr) (fun _ x _ => mems.length - (intOf x).toNat)
        case atStart => exact ⟨0, S, Nat.zero_le _, rfl, rfl, HS.out, rfl, hbel⟩
        case round =>
          clear g15 hbel hbo hzo
          obtain ⟨j, R, hj, rfl, rfl, hRm, hrl, hbl⟩ := hrel
          obtain ⟨wi, rfl⟩ : ∃ wi, wi = wr := ⟨_, rfl⟩
          have hzi : w.heap.size + 1 ≤ wi.heap.size := by have := hbl.size; omega
          have hbi : Below w.heap.size w wi := hbw0.trans (hbl.mono (by omega))
          have HRM := Lib.hid hRm
          clear hRm
          by_cases hjl : j < mems.length
          case pos =>
            have hjz : (j : Int) < (mems.length : Int) := by omega
            obtain ⟨a, p2, c2, q2, d2, rfl, ⟨a8, a0, a1, a2, a3, a4, a5, a6, a7⟩, hk⟩ := (hM.below hbi).cells j hjl
            rw [wgtMs_drop mems j hjl] at hrl
            obtain ⟨k, hkk⟩ : ∃ k, mems[j] = k := ⟨_, rfl⟩
            have hmem : k ∈ mems := by rw [← hkk]; exact List.getElem_mem _
            rw [hkk] at hk a0 a1 a2 a3 a4 a5 a6 a7 a8 hrl
            rw [mwgt_eq] at hrl
            obtain ⟨hk1, hk2⟩ := HMM.out k hmem
            have h1 := mnj_le k.key
            have m1 : min (k.key.size : Int) 9000 = (mnj k.key : Int) := by unfold mnj; omega
            generalize mnj k.key = yk at *
            obtain ⟨Wt, hWt⟩ : ∃ Wt, Wt = wi.alloc (.cells #[.string k.key, .int .i64 k.v.kind, .bool k.v.b, .int .i64 k.v.n, .string k.v.s, .slice p2 k.v.items.length c2, .slice q2 k.v.mems.length d2, .int .i64 k.v.at', .int .i64 k.at'] 36) := ⟨_, rfl⟩
            have Bt : Below wi.heap.size wi Wt := by rw [hWt]; exact (Below.refl _ _).alloc (Nat.le_refl _) _
            have c1 : R ≤ 9000 → _ := fun hR => law_weightJ f k.v _ (R + yk) Wt hk1 hk2 (by omega) (hk.below Bt)
            rw [show ((R + yk : Nat) : Int) = (R : Int) + (yk : Int) by omega] at c1
            have HBT := Lib.hid (hbl.trans (Bt.mono hzi))
            have HBW := Lib.hid (hbi.trans (Bt.mono (by omega)))
            have hzt := Bt.size
            rw [hWt] at c1 HBT HBW hzt
            have HKW := Lib.hid (fun hR : R ≤ 9000 => vwgt_le k.v (R + yk) (by omega))
            clear hWt Bt hkk
            generalize k.v.wgt (R + yk) = zb at *
            obtain ⟨cc, hcc⟩ : ∃ c, a.add (j * 9) = c := ⟨_, rfl⟩
            rw [hcc] at a0 a1 a2 a3 a4 a5 a6 a7 a8
            simp only [Addr.add, Nat.reduceEqDiff, ↓reduceIte] at a0 a1 a2 a3 a4 a5 a6 a7
            by_cases hR9 : 9000 < R
            · rw [if_pos hR9] at hrl
              have hR9z : (9000 : Int) < (R : Int) := by omega
              have HN := Lib.hid (show n.wgt T = R by rw [HD.out, XHB.out, hrl])
              clear hrl hM hk hmem c1 HMM
              go_wp2
              go_ret
              exact ⟨jtrI (by rw [HN.out]), HBW.out⟩
            · rw [if_neg hR9] at hrl
              have hR9z : ¬ (9000 : Int) < (R : Int) := by omega
              have HN := Lib.hid hrl
              have HZM := Lib.hid (HKW.out (by omega))
              have c2' := c1 (by omega)
              have w1 : IntKind.i64.wrap ((R : Int) + (yk : Int)) = (R : Int) + (yk : Int) := wrapJ (by omega) (by omega)
              clear hrl hM hk hmem HMM HKW c1
              go_wp2_with fail
              refine c2'.mono ?_
              rintro e w5 ⟨rfl, b5⟩
              go_wp2
              go_roundw
              case rel => exact ⟨j + 1, zb, by omega, by go_num, rfl, HZM.out, HN.out, HBT.out.trans (b5.mono (by omega))⟩
              case measure => simp [intOf]; omega
          case neg =>
            obtain rfl : j = mems.length := by omega
            have HX := Lib.hid (show n.wgt T = R by rw [HD.out, XHB.out, hrl, List.drop_eq_nil_of_le (Nat.le_refl _), wgtMs])
            have hjz : ¬ (mems.length : Int) < (mems.length : Int) := by omega
            clear hrl hM
            go_wp2
            go_ret
            exact ⟨jtrI (by rw [HX.out]), hbi⟩
def oneIfJ (b : Bool) : Int := if b then 1 else 0
set_option maxRecDepth 100000 in
set_option maxHeartbeats 4000000 in
theorem law_TooLargeJ (n : ValD) (v : Value) (w : World) (hW : n.WF) (hn : ValIs w n v) : Calls Tryd.prog 7 #[v] w fun e w' => e = .returned (.int .i64 (oneIfJ (decide (5000 < n.wgt 0)))) ∧ Below w.heap.size w w' := by
  have c1 : ∀ o, _ := fun o : Obj => law_weightJ n.cnt n v 0 (w.alloc o) (Nat.le_refl _) hW (by decide) (ValIs.below ((Below.refl _ _).alloc (Nat.le_refl _) o) _ _ hn)
  obtain ⟨p, c, q, d, rfl, -, -⟩ := (val_is w n v).1 hn
  have hbe : ∀ o : Obj, Below w.heap.size w (w.alloc o) := fun o => (Below.refl _ _).alloc (Nat.le_refl _) _
  rw [show ((0 : Nat) : Int) = 0 from rfl] at c1
  clear hn
  generalize n.wgt 0 = T at *
  by_cases hT : 5000 < T
  · have hTz : (5000 : Int) < (T : Int) := by omega
    rw [decide_eq_true hT]
    go_enter Tryd.func7, Tryd.ntmps7
    go_wp2_with fail
    refine (c1 _).mono ?_
    rintro e w5 ⟨rfl, b5⟩
    have hb5 := (hbe _).trans (b5.mono (by simp))
    go_wp2
    go_ret
    exact ⟨rfl, hb5⟩
  · have hTz : ¬ (5000 : Int) < (T : Int) := by omega
    rw [decide_eq_false hT]
    go_enter Tryd.func7, Tryd.ntmps7
    go_wp2_with fail
    refine (c1 _).mono ?_
    rintro e w5 ⟨rfl, b5⟩
    have hb5 := (hbe _).trans (b5.mono (by simp))
    go_wp2
    go_ret
    exact ⟨rfl, hb5⟩
mutual
theorem vwgt_ge : ∀ (n : ValD) (T : Nat), T ≤ n.wgt T
  | .mk k b n s items mems a, T => by
    rw [ValD.wgt]
    have h1 := wgtVs_ge items (T + (1 + mnj s))
    have h2 := wgtMs_ge mems (wgtVs items (T + (1 + mnj s)))
    omega
theorem wgtVs_ge : ∀ (l : List ValD) (T : Nat), T ≤ wgtVs l T
  | [], T => Nat.le_refl _
  | k :: r, T => by
    rw [wgtVs]
    split
    · exact Nat.le_refl _
    · exact Nat.le_trans (vwgt_ge k T) (wgtVs_ge r _)
theorem wgtMs_ge : ∀ (l : List MemD) (T : Nat), T ≤ wgtMs l T
  | [], T => Nat.le_refl _
  | k :: r, T => by
    rw [wgtMs]
    split
    · exact Nat.le_refl _
    · exact Nat.le_trans (mwgt_ge k T) (wgtMs_ge r _)
theorem mwgt_ge : ∀ (m : MemD) (T : Nat), T ≤ m.wgt T
  | .mk key v a, T => by
    rw [MemD.wgt]
    have := vwgt_ge v (T + mnj key)
    omega
end
end Go.Proofs.YtdooadalkbghgaaDoor
end
