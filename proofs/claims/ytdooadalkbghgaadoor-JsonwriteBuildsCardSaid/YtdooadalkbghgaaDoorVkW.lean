/- Packed from the texts JwE JwF. -/
import Derived.Test.YtdooadalkbghgaaDoorVkE
import Derived.Test.YtdooadalkbghgaaDoorVkU
import Derived.Test.YtdooadalkbghgaaDoorVkV
import Derived.Laws.BytesArg
import Derived.IntWalk
section
namespace Go.Proofs.YtdooadalkbghgaaDoor
open Go.RowKit
theorem dec_big (u : Nat) (h : ¬ u < 10) : Lib.decDigits u = Lib.decDigits (u / 10) ++ [UInt8.ofNat (48 + u % 10)] := by rw [Lib.decDigits, dif_neg h]
theorem dec_small (u : Nat) (h : u < 10) : Lib.decDigits u = [UInt8.ofNat (48 + u)] := by rw [Lib.decDigits, dif_pos h]
theorem one_dig (z : Int) (k : Nat) (h : z = (k : Int)) : strOfNums [48 + z] = ofBytes [UInt8.ofNat (48 + k)] := by
  subst h
  show (⟨[UInt8.ofNat (48 + (k : Int)).toNat].toArray⟩ : ByteArray) = ofBytes [UInt8.ofNat (48 + k)]
  rw [show (48 + (k : Int)).toNat = 48 + k by omega]
  rfl
theorem conv_dig (wr : World) (z : Int) (k : Nat) (h : z = (k : Int)) : (convert 50 9 (.slice (some ⟨wr.heap.size, 0, none⟩) 1 1)).run Tryd.prog (wr.alloc (.cells #[.int .u8 (48 + z)] 5)) = .ok (.string (ofBytes [UInt8.ofNat (48 + k)])) (wr.alloc (.cells #[.int .u8 (48 + z)] 5)) := by
  have hcv := run_convert_bytes_arg (P := Tryd.prog) (wr.alloc (.cells #[.int .u8 (48 + z)] 5)) 50 5 Tryd.underlying50 Tryd.underlying5 wr.heap.size 0 1 1 [48 + z] rfl (fun j hj => by
    have hj0 : j = 0 := (by omega)
    subst hj0
    simp) 9 Tryd.underlying9
  rw [one_dig z k h] at hcv
  exact hcv
theorem tmod_neg (z : Int) (h : z < 0) : z.tmod 10 = -((-z) % 10) ∧ z.tdiv 10 = -((-z) / 10) := by
  obtain ⟨k, rfl⟩ : ∃ k : Int, z = -k := ⟨-z, by omega⟩
  have hk : 0 ≤ k := by omega
  rw [Int.neg_tmod, Int.neg_tdiv, Int.tmod_eq_emod_of_nonneg hk, Int.tdiv_eq_ediv_of_nonneg hk, Int.neg_neg]
  exact ⟨rfl, rfl⟩
theorem jretSt {a b : ByteArray} (h : a = b) : Ending.returned (.string a) = .returned (.string b) := by rw [h]
set_option maxRecDepth 100000 in
set_option maxHeartbeats 8000000 in
theorem jref_Decimal (n : Int) (w : World) (h0 : -9223372036854775808 ≤ n) (h1 : n ≤ 9223372036854775807) :
    Calls Tryd.prog 40 #[.int .i64 n] w fun e w' => e = .returned (.string (ofBytes (Lib.itoa n))) ∧ Below w.heap.size w w' := by
  have hlen : (Lib.decDigits n.natAbs).length ≤ 19 := dec_len 18 _ (by simp; omega)
  by_cases hn : 0 ≤ n
  · have hI : Lib.itoa n = Lib.decDigits n.natAbs := by
      unfold Lib.itoa
      rw [if_neg (by omega), show n.toNat = n.natAbs by omega]
    rw [hI]
    clear hI
    obtain ⟨D, hD⟩ : ∃ D, Lib.decDigits n.natAbs = D := ⟨_, rfl⟩
    rw [hD] at hlen ⊢
    have HDd := Lib.hid hD
    clear hD
    go_enter Tryd.func40, Tryd.ntmps40
    go_wp2
    go_loopw [3, 4] (fun s m wr => ∃ (z : Int) (acc : List UInt8), m = .int .i64 z ∧ 0 ≤ z ∧ z ≤ 9223372036854775807 ∧ s = .string (ofBytes acc) ∧ D = Lib.decDigits z.natAbs ++ acc ∧ Below w.heap.size w wr) (fun _ m _ => (RowKit.intOf m).natAbs)
    case atStart => exact ⟨n, [], rfl, hn, h1, rfl, by rw [List.append_nil]; exact HDd.out.symm, Below.refl _ _⟩
    case round =>
      obtain ⟨z, acc, rfl, hz0, hz1, rfl, hrel, hb⟩ := hrel
      have hal : acc.length ≤ 19 := by rw [hrel, List.length_append] at hlen; omega
      obtain ⟨r, hr⟩ : ∃ r : Int, z % 10 = r := ⟨_, rfl⟩
      obtain ⟨q, hq⟩ : ∃ q : Int, z / 10 = q := ⟨_, rfl⟩
      have hr0 : 0 ≤ r := by omega
      have hr9 : r ≤ 9 := by omega
      have hcv := conv_dig wr r r.toNat (by omega)
      have hs : ofBytes [UInt8.ofNat (48 + r.toNat)] ++ ofBytes acc = ofBytes (UInt8.ofNat (48 + r.toNat) :: acc) := by rw [← jb_app]; rfl
      have hz9 : (ofBytes [UInt8.ofNat (48 + r.toNat)]).size = 1 := ofBytes_size _
      have hza : (ofBytes acc).size ≤ 19 := by rw [ofBytes_size]; exact hal
      have HBb := Lib.hid (hb.alloc hb.size (.cells #[.int .u8 (48 + r)] 5))
      have hm10 : (-10 : Int) < z := by omega
      by_cases hu : z < 10
      · have HRr := Lib.hid (show ofBytes [UInt8.ofNat (48 + r.toNat)] ++ ofBytes acc = ofBytes D by
          rw [hs, hrel, dec_small z.natAbs (by omega), show r.toNat = z.natAbs by omega]
          rfl)
        generalize hX : ofBytes [UInt8.ofNat (48 + r.toNat)] = X at *
        clear hrel hb hs hX hal
        go_wp2
        go_ret
        exact ⟨jretSt HRr.out, HBb.out⟩
      · have HRr := Lib.hid (show D = Lib.decDigits q.natAbs ++ (UInt8.ofNat (48 + r.toNat) :: acc) by
          rw [hrel, dec_big z.natAbs (by omega), show z.natAbs / 10 = q.natAbs by omega, show z.natAbs % 10 = r.toNat by omega]
          simp)
        have HSs := Lib.hid hs
        have hq0 : 0 ≤ q := by omega
        have hqz : q < z := by omega
        clear hrel hb hs hal
        generalize hX : ofBytes [UInt8.ofNat (48 + r.toNat)] = X at *
        clear hX
        go_wp2
        go_roundw
        case rel => exact ⟨q, UInt8.ofNat (48 + r.toNat) :: acc, (by first | rfl | rw [hq]), hq0, by omega, by rw [HSs.out], HRr.out, HBb.out⟩
        case measure => simp [RowKit.intOf]; omega
  · have hn' : n < 0 := by omega
    have hI : Lib.itoa n = 45 :: Lib.decDigits n.natAbs := by
      unfold Lib.itoa
      rw [if_pos hn']
    rw [hI]
    clear hI
    obtain ⟨D, hD⟩ : ∃ D, Lib.decDigits n.natAbs = D := ⟨_, rfl⟩
    rw [hD] at hlen ⊢
    have HDd := Lib.hid hD
    clear hD hn
    go_enter Tryd.func40, Tryd.ntmps40
    go_wp2
    go_loopw [3, 4] (fun s m wr => ∃ (z : Int) (acc : List UInt8), m = .int .i64 z ∧ z < 0 ∧ -9223372036854775808 ≤ z ∧ s = .string (ofBytes acc) ∧ D = Lib.decDigits z.natAbs ++ acc ∧ Below w.heap.size w wr) (fun _ m _ => (RowKit.intOf m).natAbs)
    case atStart => exact ⟨n, [], rfl, hn', h0, rfl, by rw [List.append_nil]; exact HDd.out.symm, Below.refl _ _⟩
    case round =>
      obtain ⟨z, acc, rfl, hz0, hz1, rfl, hrel, hb⟩ := hrel
      have hal : acc.length ≤ 19 := by rw [hrel, List.length_append] at hlen; omega
      obtain ⟨hr', hq'⟩ := tmod_neg z hz0
      obtain ⟨y, hy⟩ : ∃ y : Int, (-z) % 10 = y := ⟨_, rfl⟩
      obtain ⟨q, hq⟩ : ∃ q : Int, z.tdiv 10 = q := ⟨_, rfl⟩
      rw [hy] at hr'
      rw [hq] at hq'
      have hy0 : 0 ≤ y := by omega
      have hy9 : y ≤ 9 := by omega
      have hyn : y.toNat = z.natAbs % 10 := by omega
      have hqn : q.natAbs = z.natAbs / 10 := by omega
      have hs : ofBytes [UInt8.ofNat (48 + y.toNat)] ++ ofBytes acc = ofBytes (UInt8.ofNat (48 + y.toNat) :: acc) := by rw [← jb_app]; rfl
      have hz9 : (ofBytes [UInt8.ofNat (48 + y.toNat)]).size = 1 := ofBytes_size _
      have hza : (ofBytes acc).size ≤ 19 := by rw [ofBytes_size]; exact hal
      have hcv := conv_dig wr y y.toNat (by omega)
      have HBb := Lib.hid (hb.alloc hb.size (.cells #[.int .u8 (48 + y)] 5))
      have hz10 : z < 10 := by omega
      have h45 : ofBytes (45 :: D) = (⟨#[45]⟩ : ByteArray) ++ ofBytes D := by rw [show 45 :: D = [45] ++ D from rfl, jb_app]; rfl
      by_cases hu : z ≤ -10
      · have hu2 : ¬ (-10 : Int) < z := by omega
        have HRr := Lib.hid (show D = Lib.decDigits q.natAbs ++ (UInt8.ofNat (48 + y.toNat) :: acc) by
          rw [hrel, dec_big z.natAbs (by omega), hqn, hyn]
          simp)
        have HSs := Lib.hid hs
        have hq0 : q < 0 := by omega
        have hq1 : -9223372036854775808 ≤ q := by omega
        have hqz : z < q := by omega
        clear hrel hb hs hal hq' hyn hqn hy h45
        generalize hX : ofBytes [UInt8.ofNat (48 + y.toNat)] = X at *
        clear hX
        by_cases hyz : y = 0
        · have HYz := Lib.hid hyz
          have hr2 : z.tmod 10 = 0 := by rw [hr', hyz]; rfl
          rw [hyz, show (48 : Int) + 0 = 48 from rfl] at hcv
          clear hr' hyz hy0 hy9
          go_wp2
          go_roundw
          case rel => exact ⟨q, UInt8.ofNat (48 + y.toNat) :: acc, (by first | rfl | rw [hq]), hq0, hq1, by rw [HSs.out], HRr.out, by have := HBb.out; rw [HYz.out, show (48 : Int) + 0 = 48 from rfl] at this; exact this⟩
          case measure => simp [RowKit.intOf]; omega
        · have hy1 : 0 < y := by omega
          clear hyz
          go_wp2
          go_roundw
          case rel => exact ⟨q, UInt8.ofNat (48 + y.toNat) :: acc, (by first | rfl | rw [hq]), hq0, hq1, by rw [HSs.out], HRr.out, HBb.out⟩
          case measure => simp [RowKit.intOf]; omega
      · have hu2 : (-10 : Int) < z := by omega
        have hy1 : 0 < y := by omega
        have HRr := Lib.hid (show (⟨#[45]⟩ : ByteArray) ++ (ofBytes [UInt8.ofNat (48 + y.toNat)] ++ ofBytes acc) = ofBytes (45 :: D) by
          rw [hs, h45, hrel, dec_small z.natAbs (by omega), show y.toNat = z.natAbs by omega]
          rfl)
        clear hrel hb hs hal hq' hyn hqn hy h45 hq hu
        generalize hX : ofBytes [UInt8.ofNat (48 + y.toNat)] = X at *
        clear hX
        go_wp2
        go_ret
        exact ⟨jretSt HRr.out, HBb.out⟩
end Go.Proofs.YtdooadalkbghgaaDoor
end
section
namespace Go.Proofs.YtdooadalkbghgaaDoor
open Go.RowKit
def TxC (f : Nat) : Prop := ∀ (n : ValD) (v : Value) (w : World), n.bulk ≤ f → n.bulk ≤ 1000000 → n.okB = true → n.R64 → ValIs w n v → Calls Tryd.prog 24 #[v] w fun e w' => e = .returned (.string (ofBytes n.text)) ∧ Below w.heap.size w w'
theorem txVs_drop (l : List ValD) (i : Nat) (h : i < l.length) (b : Bool) : txVs b (l.drop i) = sepT b ++ (l[i].text ++ txVs false (l.drop (i + 1))) := by rw [List.drop_eq_getElem_cons h, txVs]
theorem txMs_drop (l : List MemD) (i : Nat) (h : i < l.length) (b : Bool) : txMs b (l.drop i) = sepT b ++ ((quoteJ l[i].key.data.toList ++ (58 :: l[i].v.text)) ++ txMs false (l.drop (i + 1))) := by rw [List.drop_eq_getElem_cons h, txMs, mtext_eq]
theorem okVs_at : ∀ (l : List ValD), okVs l = true → ∀ k ∈ l, k.okB = true
  | [], _, _, h => by cases h
  | x :: r, h, k, hk => by
    rw [okVs, Bool.and_eq_true] at h
    rcases List.mem_cons.1 hk with rfl | hk
    · exact h.1
    · exact okVs_at r h.2 k hk
theorem okMs_at : ∀ (l : List MemD) (keys : List ByteArray), okMs keys l = true → ∀ m ∈ l, vaL m.key.data.toList = true ∧ m.v.okB = true
  | [], _, _, _, h => by cases h
  | x :: r, keys, h, m, hm => by
    rw [okMs, Bool.and_eq_true, Bool.and_eq_true, Bool.and_eq_true, mok_eq] at h
    rcases List.mem_cons.1 hm with rfl | hm
    · exact h.1.2
    · exact okMs_at r _ h.2 m hm
theorem quote_ok (l : List UInt8) (h : vaL l = true) : quoteP l = (quoteJ l, 0) := by unfold quoteP; rw [if_pos h]
theorem b_app (a b : List UInt8) : ofBytes a ++ ofBytes b = ofBytes (a ++ b) := (jb_app a b).symm
set_option maxRecDepth 100000 in
set_option maxHeartbeats 64000000 in
theorem text_step (f : Nat) (IH : TxC f) : TxC (f + 1) := by
    intro n v w hf hc hok hr hn
    have hbe := vbulk_eq n
    rw [vok_eq, Bool.and_eq_true, Bool.and_eq_true, Bool.and_eq_true] at hok
    obtain ⟨hpr, hsv, hiv, hmv⟩ := hok
    have hpr := of_decide_eq_true (show decide _ = true from hpr)
    obtain ⟨⟨hk0, hk5⟩, pb, pn, ps, pi, pm⟩ := hpr
    have hlen : n.text.length ≤ 40000000 := by have := text_bulk n hr; omega
    obtain ⟨⟨hr0, hr1⟩, hri, hrm⟩ := (vr64_eq n).1 hr
    have HIM := Lib.hid (fun (k : ValD) (hk : k ∈ n.items) => show k.bulk ≤ f ∧ k.bulk ≤ 1000000 ∧ k.okB = true ∧ k.R64 ∧ k.text.length ≤ 40000000 from ⟨by have := bulk_item n k hk; omega, by have := bulk_item n k hk; omega, okVs_at _ hiv k hk, r64s_mem _ hri k hk, by have := bulk_item n k hk; have := text_bulk k (r64s_mem _ hri k hk); omega⟩)
    have HMM := Lib.hid (fun (m : MemD) (hm : m ∈ n.mems) => show m.v.bulk ≤ f ∧ m.v.bulk ≤ 1000000 ∧ m.v.okB = true ∧ m.v.R64 ∧ m.v.text.length ≤ 40000000 ∧ m.key.size ≤ 1000000 ∧ vaL m.key.data.toList = true from ⟨by have := bulk_mem n m hm; omega, by have := bulk_mem n m hm; omega, (okMs_at _ _ hmv m hm).2, r64m_mem _ hrm m hm, by have := bulk_mem n m hm; have := text_bulk m.v (r64m_mem _ hrm m hm); omega, by have := bulk_mem n m hm; omega, (okMs_at _ _ hmv m hm).1⟩)
    have hil : (n.items.length : Int) ≤ 1000000 := by have := bulkVs_len n.items; omega
    have hml : (n.mems.length : Int) ≤ 1000000 := by have := bulkMs_len n.mems; omega
    have htx := vtext_eq n
    have cQ : ∀ wx, _ := fun wx => jref_Quote n.s wx (by omega)
    rw [quote_ok _ hsv] at cQ
    simp only at cQ
    have cD : ∀ wx, _ := fun wx => jref_Decimal n.n wx hr0 hr1
    obtain ⟨p, c, q, d, rfl, hI, hM⟩ := (val_is w n v).1 hn
    clear hn hf hbe hc hr hsv hiv hmv hri hrm hr0 hr1
    generalize hT : n.text = TX at *
    clear hT
    generalize n.kind = kd at *
    generalize n.b = bb at *
    generalize n.n = nn at *
    generalize n.s = ss at *
    generalize n.items = items at *
    generalize n.mems = mems at *
    generalize n.at' = aa at *
    have HI := Lib.hid hI
    have HM := Lib.hid hM
    have HTX := Lib.hid htx
    clear htx
    obtain ⟨W0, hW0⟩ : ∃ W0, W0 = w.alloc (.cells #[.int .i64 kd, .bool bb, .int .i64 nn, .string ss, .slice p items.length c, .slice q mems.length d, .int .i64 aa] 25) := ⟨_, rfl⟩
    have B0 : Bj W0 w.heap.size #[.int .i64 kd, .bool bb, .int .i64 nn, .string ss, .slice p items.length c, .slice q mems.length d, .int .i64 aa] 25 := by rw [hW0]; exact Bj.new w _ _
    have hb0 : Below w.heap.size w W0 := by rw [hW0]; exact (Below.refl _ _).alloc (Nat.le_refl _) _
    obtain ⟨⟨f0, f1, f2, f3, f4, f5, -⟩, -⟩ := B0.seven
    have HB0 := Lib.hid hb0
    have hlt0 := B0.lt
    clear hb0 B0 hI hM
    rcases (show kd = 0 ∨ kd = 1 ∨ kd = 2 ∨ kd = 3 ∨ kd = 4 ∨ kd = 5 by omega) with rfl | rfl | rfl | rfl | rfl | rfl
    · have HX := Lib.hid (show TX = nullT from HTX.out)
      clear cQ cD
      go_enter Tryd.func24, Tryd.ntmps24
      go_upto_region 1 with fail
      simp only [← hW0]
      clear hW0
      go_wp2
      go_ret
      exact ⟨jretSt (by rw [HX.out]; rfl), HB0.out⟩
    · have HX := Lib.hid (show TX = boolT bb from HTX.out)
      clear cQ cD
      cases bb with
      | true =>
        go_enter Tryd.func24, Tryd.ntmps24
        go_upto_region 1 with fail
        simp only [← hW0]
        clear hW0
        go_wp2
        go_ret
        exact ⟨jretSt (by rw [HX.out]; rfl), HB0.out⟩
      | false =>
        go_enter Tryd.func24, Tryd.ntmps24
        go_upto_region 1 with fail
        simp only [← hW0]
        clear hW0
        go_wp2
        go_ret
        exact ⟨jretSt (by rw [HX.out]; rfl), HB0.out⟩
    · have HX := Lib.hid (show TX = Lib.itoa nn from HTX.out)
      clear cQ
      go_enter Tryd.func24, Tryd.ntmps24
      go_upto_region 1 with fail
      simp only [← hW0]
      clear hW0
      go_wp2_with fail
      refine (cD _).mono ?_
      rintro e w3 ⟨rfl, b3⟩
      go_wp2
      go_ret
      exact ⟨jretSt (by rw [HX.out]), HB0.out.trans (b3.mono HB0.out.size)⟩
    · have HX := Lib.hid (show TX = quoteJ ss.data.toList from HTX.out)
      clear cD
      go_enter Tryd.func24, Tryd.ntmps24
      go_upto_region 1 with fail
      simp only [← hW0]
      clear hW0
      go_wp2_with fail
      refine (cQ _).mono ?_
      rintro e w3 ⟨rfl, b3⟩
      go_wp2
      go_ret
      exact ⟨jretSt (by rw [HX.out]), HB0.out.trans (b3.mono HB0.out.size)⟩
    · have HX := Lib.hid (show TX = 91 :: (txVs true items ++ [93]) from HTX.out)
      have htl : (txVs true items).length ≤ 40000000 := by have := HX.out; rw [this] at hlen; simp only [List.length_cons, List.length_append, List.length_nil] at hlen; omega
      clear cQ cD pb pn ps pi pm hlen
      go_enter Tryd.func24, Tryd.ntmps24
      go_upto_region 1 with fail
      simp only [← hW0]
      clear hW0
      go_wp2
      go_loopw [5, 6] (fun s q wr => ∃ (i : Nat) (acc : List UInt8), i ≤ items.length ∧ q = .int .i64 (i : Int) ∧ s = .string (ofBytes acc) ∧ txVs true items = acc ++ txVs (decide (i = 0)) (items.drop i) ∧ Below W0.heap.size W0 wr) (fun _ q _ => items.length - (RowKit.intOf q).toNat)
      case atStart => exact ⟨0, [], Nat.zero_le _, rfl, rfl, rfl, Below.refl _ _⟩
      case round =>
        obtain ⟨i, acc, hi, rfl, rfl, hrel, hbel⟩ := hrel
        have hbo : Below w.heap.size w wr := HB0.out.trans (hbel.mono HB0.out.size)
        have e0 := (hbel.cell (p := ⟨w.heap.size, 0, none⟩) hlt0).trans f0
        have e4 := (hbel.cell (p := ⟨w.heap.size, 4, none⟩) hlt0).trans f4
        have hacl : acc.length ≤ 40000000 := by rw [hrel, List.length_append] at htl; omega
        by_cases hlt : i < items.length
        · have hiz : (i : Int) < (items.length : Int) := by omega
          obtain ⟨a, v0, v1, v2, v3, v4, v5, v6, rfl, ⟨a0, a1, a2, a3, a4, a5, a6⟩, hk⟩ := ItemsAt.get items 0 (HI.out.below hbo) i hlt
          rw [Nat.zero_add] at a0 a1 a2 a3 a4 a5 a6
          rw [txVs_drop items i hlt] at hrel
          obtain ⟨k, hkk⟩ : ∃ k, items[i] = k := ⟨_, rfl⟩
          have hmem : k ∈ items := by rw [← hkk]; exact List.getElem_mem _
          rw [hkk] at hk hrel
          obtain ⟨hk1, hk2, hk3, hk4, hk5⟩ := HIM.out k hmem
          have c1 := IH k _ wr hk1 hk2 hk3 hk4 hk
          obtain ⟨cc, hcc⟩ : ∃ c, a.add (i * 7) = c := ⟨_, rfl⟩
          rw [hcc] at a0 a1 a2 a3 a4 a5 a6
          simp only [Addr.add, Nat.reduceEqDiff, ↓reduceIte] at a1 a2 a3 a4 a5 a6
          have HBL := Lib.hid hbel
          have HRR := Lib.hid hrel
          have hz1 : (ofBytes acc).size ≤ 40000000 := by rw [ofBytes_size]; exact hacl
          have hz2 : (ofBytes k.text).size ≤ 40000000 := by rw [ofBytes_size]; exact hk5
          have HAC := Lib.hid (b_app acc k.text)
          have HAD := Lib.hid (show ofBytes acc ++ (⟨#[44]⟩ : ByteArray) = ofBytes (acc ++ [44]) from b_app acc [44])
          have HAE := Lib.hid (b_app (acc ++ [44]) k.text)
          have hz3 : (ofBytes (acc ++ [44])).size ≤ 40000001 := by rw [ofBytes_size, List.length_append, List.length_singleton]; omega
          clear hk hmem hkk hbel hbo hrel hk1 hk2 hk3 hk4 hk5 hacl
          obtain ⟨tk, htk⟩ : ∃ t, k.text = t := ⟨_, rfl⟩
          rw [htk] at c1 hz2 HRR HAC HAE
          clear htk
          by_cases hi0 : i = 0
          · subst hi0
            have HN := Lib.hid (show txVs true items = (acc ++ tk) ++ txVs (decide (0 + 1 = 0)) (items.drop (0 + 1)) by rw [HRR.out, List.append_assoc]; rfl)
            clear HRR HAD HAE
            go_wp2_with fail
            refine c1.mono ?_
            rintro e w1 ⟨rfl, b1⟩
            go_wp2
            go_roundw
            case rel => exact ⟨0 + 1, acc ++ tk, hlt, by go_num, by rw [HAC.out], HN.out, HBL.out.trans (b1.mono HBL.out.size)⟩
            case measure => simp [RowKit.intOf]; omega
          · have hiz0 : (0 : Int) < (i : Int) := by omega
            have HN := Lib.hid (show txVs true items = ((acc ++ [44]) ++ tk) ++ txVs (decide (i + 1 = 0)) (items.drop (i + 1)) by rw [HRR.out, decide_eq_false hi0, decide_eq_false (by omega)]; simp [sepT])
            have hbb := HAD.out
            clear HRR HAC
            go_wp2_with fail
            refine c1.mono ?_
            rintro e w1 ⟨rfl, b1⟩
            go_wp2
            go_roundw
            case rel => exact ⟨i + 1, (acc ++ [44]) ++ tk, hlt, by go_num, by rw [← HAE.out, ← HAD.out], HN.out, HBL.out.trans (b1.mono HBL.out.size)⟩
            case measure => simp [RowKit.intOf]; omega
        · obtain rfl : i = items.length := by omega
          have hiz : ¬ (items.length : Int) < (items.length : Int) := by omega
          rw [List.drop_eq_nil_of_le (Nat.le_refl _), txVs, List.append_nil] at hrel
          have hz1 : (ofBytes acc).size ≤ 40000000 := by rw [ofBytes_size]; exact hacl
          have HN := Lib.hid (show (⟨#[91]⟩ : ByteArray) ++ ofBytes acc ++ (⟨#[93]⟩ : ByteArray) = ofBytes TX by
            rw [HX.out, hrel, show 91 :: (acc ++ [93]) = ([91] ++ acc) ++ [93] by simp, jb_app, jb_app]
            rfl)
          clear hrel hbel
          go_wp2
          go_ret
          exact ⟨jretSt HN.out, hbo⟩
    · have HX := Lib.hid (show TX = 123 :: (txMs true mems ++ [125]) from HTX.out)
      have htl : (txMs true mems).length ≤ 40000000 := by have := HX.out; rw [this] at hlen; simp only [List.length_cons, List.length_append, List.length_nil] at hlen; omega
      have hi0 : items.length = 0 := by omega
      rw [hi0] at f4 hW0 ⊢
      clear cQ cD pb pn ps pi pm hlen HIM HI hil hi0
      go_enter Tryd.func24, Tryd.ntmps24
      go_upto_region 1 with fail
      simp only [← hW0]
      clear hW0
      go_wp2
      go_loopw [5, 6] (fun s q wr => s = .string ⟨#[]⟩ ∧ q = .int .i64 0 ∧ wr = W0) (fun _ _ _ => 0)
      case atStart => exact ⟨rfl, rfl, rfl⟩
      case round =>
        obtain ⟨rfl, rfl, rfl⟩ := hrel
        obtain ⟨W0, hwo⟩ : ∃ wo, wo = wr := ⟨_, rfl⟩
        subst hwo
        go_wp2
        go_loopw [5, 7] (fun s q wr => ∃ (i : Nat) (acc : List UInt8), i ≤ mems.length ∧ q = .int .i64 (i : Int) ∧ s = .string (ofBytes acc) ∧ txMs true mems = acc ++ txMs (decide (i = 0)) (mems.drop i) ∧ Below W0.heap.size W0 wr) (fun _ q _ => mems.length - (RowKit.intOf q).toNat)
        case atStart => exact ⟨0, [], Nat.zero_le _, rfl, rfl, rfl, Below.refl _ _⟩
        case round =>
          obtain ⟨i, acc, hi, rfl, rfl, hrel, hbel⟩ := hrel
          have hbo : Below w.heap.size w wr := HB0.out.trans (hbel.mono HB0.out.size)
          have e0 := (hbel.cell (p := ⟨w.heap.size, 0, none⟩) hlt0).trans f0
          have e5 := (hbel.cell (p := ⟨w.heap.size, 5, none⟩) hlt0).trans f5
          have hacl : acc.length ≤ 40000000 := by rw [hrel, List.length_append] at htl; omega
          by_cases hlt : i < mems.length
          · have hiz : (i : Int) < (mems.length : Int) := by omega
            obtain ⟨a, v0, v1, v2, v3, v4, v5, v6, rfl, ⟨a0, a1, a2, a3, a4, a5, a6, a7, a8⟩, hk⟩ := MemsAt.get mems 0 (HM.out.below hbo) i hlt
            rw [Nat.zero_add] at a0 a1 a2 a3 a4 a5 a6 a7 a8
            rw [txMs_drop mems i hlt] at hrel
            obtain ⟨m, hkk⟩ : ∃ k, mems[i] = k := ⟨_, rfl⟩
            have hmem : m ∈ mems := by rw [← hkk]; exact List.getElem_mem _
            rw [hkk] at hk hrel a0
            obtain ⟨hk1, hk2, hk3, hk4, hk5, hk6, hk7⟩ := HMM.out m hmem
            have c1 : ∀ wx, Below wr.heap.size wr wx → _ := fun wx hx => IH m.v _ wx hk1 hk2 hk3 hk4 (hk.below hx)
            have c2 := jref_Quote m.key wr (by omega)
            rw [quote_ok _ hk7] at c2
            simp only at c2
            obtain ⟨cc, hcc⟩ : ∃ c, a.add (i * 9) = c := ⟨_, rfl⟩
            rw [hcc] at a0 a1 a2 a3 a4 a5 a6 a7 a8
            simp only [Addr.add, Nat.reduceEqDiff, ↓reduceIte] at a1 a2 a3 a4 a5 a6 a7 a8
            have HBL := Lib.hid hbel
            have HRR := Lib.hid hrel
            have hz1 : (ofBytes acc).size ≤ 40000000 := by rw [ofBytes_size]; exact hacl
            have hz2 : (ofBytes m.v.text).size ≤ 40000000 := by rw [ofBytes_size]; exact hk5
            have hz3 : (ofBytes (quoteJ m.key.data.toList)).size ≤ 6000002 := by
              have := itemsJ_len m.key.data.toList
              have h4 : m.key.data.toList.length = m.key.size := by simp
              rw [ofBytes_size, quoteJ_len]
              omega
            obtain ⟨tv, htv⟩ : ∃ t, m.v.text = t := ⟨_, rfl⟩
            obtain ⟨tq, htq⟩ : ∃ t, quoteJ m.key.data.toList = t := ⟨_, rfl⟩
            rw [htv] at hz2 HRR
            rw [htq] at hz3 HRR c2
            simp only [htv] at c1
            clear htv htq hk hmem hkk hbel hrel hbo hk1 hk2 hk3 hk4 hk5 hk6 hk7 hacl
            by_cases hi0 : i = 0
            · subst hi0
              have HN := Lib.hid (show txMs true mems = (acc ++ (tq ++ (58 :: tv))) ++ txMs (decide (0 + 1 = 0)) (mems.drop (0 + 1)) by rw [HRR.out]; simp [sepT])
              have HAC := Lib.hid (show ofBytes acc ++ ((ofBytes tq ++ (⟨#[58]⟩ : ByteArray)) ++ ofBytes tv) = ofBytes (acc ++ (tq ++ (58 :: tv))) by rw [show acc ++ (tq ++ (58 :: tv)) = acc ++ ((tq ++ [58]) ++ tv) by simp, jb_app, jb_app, jb_app]; rfl)
              clear HRR
              go_wp2_with fail
              refine c2.mono ?_
              rintro e w1 ⟨rfl, b1⟩
              have y0 := (b1.cell (vblock_lt a0)).trans a0
              have y1 := (b1.cell (vblock_lt a1)).trans a1
              have y2 := (b1.cell (vblock_lt a2)).trans a2
              have y3 := (b1.cell (vblock_lt a3)).trans a3
              have y4 := (b1.cell (vblock_lt a4)).trans a4
              have y5 := (b1.cell (vblock_lt a5)).trans a5
              have y6 := (b1.cell (vblock_lt a6)).trans a6
              have y7 := (b1.cell (vblock_lt a7)).trans a7
              have y8 := (b1.cell (vblock_lt a8)).trans a8
              have x5 := (b1.cell (vblock_lt e5)).trans e5
              have HB1 := Lib.hid (HBL.out.trans (b1.mono HBL.out.size))
              have c3 := c1 w1 b1
              clear a0 a1 a2 a3 a4 a5 a6 a7 a8 e5 e0 c1 c2 b1 HBL
              go_wp2_with fail
              refine c3.mono ?_
              rintro e w2 ⟨rfl, b2⟩
              go_wp2
              go_roundw
              case rel => exact ⟨0 + 1, acc ++ (tq ++ (58 :: tv)), hlt, by go_num, by rw [← HAC.out], HN.out, HB1.out.trans (b2.mono HB1.out.size)⟩
              case measure => simp [RowKit.intOf]; omega
            · have hiz0 : (0 : Int) < (i : Int) := by omega
              have HN := Lib.hid (show txMs true mems = ((acc ++ [44]) ++ (tq ++ (58 :: tv))) ++ txMs (decide (i + 1 = 0)) (mems.drop (i + 1)) by rw [HRR.out, decide_eq_false hi0, decide_eq_false (by omega)]; simp [sepT])
              have HAC := Lib.hid (show (ofBytes acc ++ (⟨#[44]⟩ : ByteArray)) ++ ((ofBytes tq ++ (⟨#[58]⟩ : ByteArray)) ++ ofBytes tv) = ofBytes ((acc ++ [44]) ++ (tq ++ (58 :: tv))) by rw [show (acc ++ [44]) ++ (tq ++ (58 :: tv)) = (acc ++ [44]) ++ ((tq ++ [58]) ++ tv) by simp, jb_app, jb_app, jb_app, jb_app]; rfl)
              clear HRR
              go_wp2_with fail
              refine c2.mono ?_
              rintro e w1 ⟨rfl, b1⟩
              have y0 := (b1.cell (vblock_lt a0)).trans a0
              have y1 := (b1.cell (vblock_lt a1)).trans a1
              have y2 := (b1.cell (vblock_lt a2)).trans a2
              have y3 := (b1.cell (vblock_lt a3)).trans a3
              have y4 := (b1.cell (vblock_lt a4)).trans a4
              have y5 := (b1.cell (vblock_lt a5)).trans a5
              have y6 := (b1.cell (vblock_lt a6)).trans a6
              have y7 := (b1.cell (vblock_lt a7)).trans a7
              have y8 := (b1.cell (vblock_lt a8)).trans a8
              have x5 := (b1.cell (vblock_lt e5)).trans e5
              have HB1 := Lib.hid (HBL.out.trans (b1.mono HBL.out.size))
              have c3 := c1 w1 b1
              clear a0 a1 a2 a3 a4 a5 a6 a7 a8 e5 e0 c1 c2 b1 HBL
              go_wp2_with fail
              refine c3.mono ?_
              rintro e w2 ⟨rfl, b2⟩
              go_wp2
              go_roundw
              case rel => exact ⟨i + 1, (acc ++ [44]) ++ (tq ++ (58 :: tv)), hlt, by go_num, by rw [← HAC.out], HN.out, HB1.out.trans (b2.mono HB1.out.size)⟩
              case measure => simp [RowKit.intOf]; omega
          · obtain rfl : i = mems.length := by omega
            have hiz : ¬ (mems.length : Int) < (mems.length : Int) := by omega
            rw [List.drop_eq_nil_of_le (Nat.le_refl _), txMs, List.append_nil] at hrel
            have hz1 : (ofBytes acc).size ≤ 40000000 := by rw [ofBytes_size]; exact hacl
            have HN := Lib.hid (show (⟨#[123]⟩ : ByteArray) ++ ofBytes acc ++ (⟨#[125]⟩ : ByteArray) = ofBytes TX by
              rw [HX.out, hrel, show 123 :: (acc ++ [125]) = ([123] ++ acc) ++ [125] by simp, jb_app, jb_app]
              rfl)
            clear hrel hbel
            go_wp2
            go_ret
            exact ⟨jretSt HN.out, hbo⟩
theorem jref_text : ∀ f, TxC f
  | 0 => fun n _ _ hf => absurd (bulk_pos n) (by omega)
  | f + 1 => text_step f (jref_text f)
def wrZ (n : ValD) : ByteArray := if validB n = true then ofBytes n.text else ⟨#[]⟩
theorem wrP (n : ValD) : (chkZ n = 0 ∧ wrZ n = ofBytes n.text ∧ n.okB = true) ∨ (chkZ n = 22 ∧ wrZ n = ⟨#[]⟩) := by
  unfold chkZ wrZ
  rcases h : validB n with _ | _
  · exact .inr ⟨rfl, rfl⟩
  · refine .inl ⟨rfl, rfl, ?_⟩
    unfold validB at h
    rw [Bool.and_eq_true] at h
    exact h.1
set_option maxRecDepth 100000 in
set_option maxHeartbeats 8000000 in
theorem jref_WriteW (n : ValD) (v : Value) (w : World) (hc : n.bulk ≤ 1000000) (hr : n.R64) (hn : ValIs w n v) : Calls Tryd.prog 10 #[v] w fun e w' => e = .returned (.tuple #[.string (wrZ n), .int .i64 (chkZ n)]) ∧ Below w.heap.size w w' := by
  obtain ⟨p, c, q, d, hv⟩ : ∃ p c q d, v = .agg #[.int .i64 n.kind, .bool n.b, .int .i64 n.n, .string n.s, .slice p n.items.length c, .slice q n.mems.length d, .int .i64 n.at'] := by
    obtain ⟨p, c, q, d, hv, -, -⟩ := (val_is w n v).1 hn
    exact ⟨p, c, q, d, hv⟩
  subst hv
  obtain ⟨W0, hW0⟩ : ∃ W0, W0 = w.alloc (.cells #[.int .i64 n.kind, .bool n.b, .int .i64 n.n, .string n.s, .slice p n.items.length c, .slice q n.mems.length d, .int .i64 n.at'] 25) := ⟨_, rfl⟩
  have B0 : Bj W0 w.heap.size #[.int .i64 n.kind, .bool n.b, .int .i64 n.n, .string n.s, .slice p n.items.length c, .slice q n.mems.length d, .int .i64 n.at'] 25 := by rw [hW0]; exact Bj.new w _ _
  have hb0 : Below w.heap.size w W0 := by rw [hW0]; exact (Below.refl _ _).alloc (Nat.le_refl _) _
  have c1 := jref_CheckW n _ W0 hc (ValIs.below hb0 _ _ hn)
  have HN := Lib.hid (ValIs.below hb0 _ _ hn)
  have HP := Lib.hid (wrP n)
  have c2 := fun wx x ho h => jref_text n.bulk n x wx (Nat.le_refl _) hc ho hr h
  obtain ⟨⟨f0, f1, f2, f3, f4, f5, f6⟩, -⟩ := B0.seven
  have HB0 := Lib.hid hb0
  have HBJ := Lib.hid B0
  clear hn hb0 B0 hc hr
  generalize chkZ n = Z at *
  generalize wrZ n = R at *
  generalize n.okB = OK at *
  generalize n.text = TX at *
  go_enter Tryd.func10, Tryd.ntmps10
  go_upto_region 1 with fail
  simp only [← hW0]
  clear hW0
  rcases HP.out with ⟨rfl, rfl, rfl⟩ | ⟨rfl, rfl⟩
  · clear HP
    go_wp2_with fail
    refine c1.mono ?_
    rintro e w1 ⟨rfl, b1⟩
    obtain ⟨⟨g0, g1, g2, g3, g4, g5, g6⟩, -⟩ := (HBJ.out.more b1).seven
    have HB1 := Lib.hid (HB0.out.trans (b1.mono HB0.out.size))
    have cD := c2 _ _ trivial (ValIs.below b1 _ _ HN.out)
    clear b1 c1 c2 f0 f1 f2 f3 f4 f5 f6
    go_wp2_with fail
    refine cD.mono ?_
    rintro e w2 ⟨rfl, b2⟩
    go_wp2
    exact bodyPost_ret (v := .tuple #[.string (ofBytes TX), .int .i64 0]) (by simp [results, Tryd.results10, go_sem]) rfl ⟨rfl, HB1.out.trans (b2.mono HB1.out.size)⟩
  · clear HP c2
    go_wp2_with fail
    refine c1.mono ?_
    rintro e w1 ⟨rfl, b1⟩
    have HB1 := Lib.hid (HB0.out.trans (b1.mono HB0.out.size))
    go_wp2
    exact bodyPost_ret (v := .tuple #[.string ⟨#[]⟩, .int .i64 22]) (by simp [results, Tryd.results10, go_sem]) rfl ⟨rfl, HB1.out⟩
end Go.Proofs.YtdooadalkbghgaaDoor
end
