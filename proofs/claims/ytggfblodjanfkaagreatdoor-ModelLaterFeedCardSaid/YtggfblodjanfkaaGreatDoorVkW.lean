/- Packed from the texts JwE JwF. -/
import Derived.Test.YtggfblodjanfkaaGreatDoorVkE
import Derived.Test.YtggfblodjanfkaaGreatDoorVkU
import Derived.Test.YtggfblodjanfkaaGreatDoorVkV
import Derived.Laws.BytesArg
import Derived.IntWalk
section
namespace Go.Proofs.YtggfblodjanfkaaGreatDoor
open Go.RowKit
theorem dec_big (u : Nat) (h : ¬ u < 10) : Lib.decDigits u = Lib.decDigits (u / 10) ++ [UInt8.ofNat (48 + u % 10)] := by rw [Lib.decDigits, dif_neg h]
theorem dec_small (u : Nat) (h : u < 10) : Lib.decDigits u = [UInt8.ofNat (48 + u)] := by rw [Lib.decDigits, dif_pos h]
theorem one_dig (z : Int) (k : Nat) (h : z = (k : Int)) : strOfNums [48 + z] = ofBytes [UInt8.ofNat (48 + k)] := by
  subst h
  show (⟨[UInt8.ofNat (48 + (k : Int)).toNat].toArray⟩ : ByteArray) = ofBytes [UInt8.ofNat (48 + k)]
  rw [show (48 + (k : Int)).toNat = 48 + k by omega]
  rfl
theorem conv_dig (wr : World) (z : Int) (k : Nat) (h : z = (k : Int)) : (convert 84 9 (.slice (some ⟨wr.heap.size, 0, none⟩) 1 1)).run Tryz.prog (wr.alloc (.cells #[.int .u8 (48 + z)] 5)) = .ok (.string (ofBytes [UInt8.ofNat (48 + k)])) (wr.alloc (.cells #[.int .u8 (48 + z)] 5)) := by
  have hcv := run_convert_bytes_arg (P := Tryz.prog) (wr.alloc (.cells #[.int .u8 (48 + z)] 5)) 84 5 Tryz.underlying84 Tryz.underlying5 wr.heap.size 0 1 1 [48 + z] rfl (fun j hj => by
    have hj0 : j = 0 := (by omega)
    subst hj0
    simp) 9 Tryz.underlying9
  rw [one_dig z k h] at hcv
  exact hcv
theorem tmod_neg (z : Int) (h : z < 0) : z.tmod 10 = -((-z) % 10) ∧ z.tdiv 10 = -((-z) / 10) := by
  obtain ⟨k, rfl⟩ : ∃ k : Int, z = -k := ⟨-z, by omega⟩
  have hk : 0 ≤ k := by omega
  rw [Int.neg_tmod, Int.neg_tdiv, Int.tmod_eq_emod_of_nonneg hk, Int.tdiv_eq_ediv_of_nonneg hk, Int.neg_neg]
  exact ⟨rfl, rfl⟩
theorem jretSt {a b : ByteArray} (h : a = b) : Ending.returned (.string a) = .returned (.string b) := by rw [h]
set_option maxRecDepth 100000 in
set_option maxHeartbeats 8000000 in
theorem jref_Decimal (n : Int) (w : World) (h0 : -9223372036854775808 ≤ n) (h1 : n ≤ 9223372036854775807) :
    Calls Tryz.prog 57 #[.int .i64 n] w fun e w' => e = .returned (.string (ofBytes (Lib.itoa n))) ∧ Below w.heap.size w w' := by
  have hlen : (Lib.decDigits n.natAbs).length ≤ 19 := dec_len 18 _ (by simp; omega)
  by_cases hn : 0 ≤ n
  · have hI : Lib.itoa n = Lib.decDigits n.natAbs := by
      unfold Lib.itoa
      rw [if_neg (by omega), show n.toNat = n.natAbs by omega]
    rw [hI]
    clear hI
    obtain ⟨D, hD⟩ : ∃ D, Lib.decDigits n.natAbs = D := ⟨_, rfl⟩
    rw [hD] at hlen ⊢
    have HDd := Lib.hid hD
    clear hD
    go_enter Tryz.func57, Tryz.ntmps57
    go_wp2
    go_loopw [3, 4] (fun s m wr => ∃ (z : Int) (acc : List UInt8), m = .int .i64 z ∧ 0 ≤ z ∧ z ≤ 9223372036854775807 ∧ s = .string (ofBytes acc) ∧ D = Lib.decDigits z.natAbs ++ acc ∧ Below w.heap.size w wr) (fun _ m _ => (RowKit.intOf m).natAbs)
    case atStart => exact ⟨n, [], rfl, hn, h1, rfl, by rw [List.append_nil]; exact HDd.out.symm, Below.refl _ _⟩
    case round =>
      obtain ⟨z, acc, rfl, hz0, hz1, rfl, hrel, hb⟩ := hrel
      have hal : acc.length ≤ 19 := by rw [hrel, List.length_append] at hlen; omega
      obtain ⟨r, hr⟩ : ∃ r : Int, z % 10 = r := ⟨_, rfl⟩
      obtain ⟨q, hq⟩ : ∃ q : Int, z / 10 = q := ⟨_, rfl⟩
      have hr0 : 0 ≤ r := by omega
      have hr9 : r ≤ 9 := by omega
      have hcv := conv_dig wr r r.toNat (by omega)
      have hs : ofBytes [UInt8.ofNat (48 + r.toNat)] ++ ofBytes acc = ofBytes (UInt8.ofNat (48 + r.toNat) :: acc) := by rw [← jb_app]; rfl
      have hz9 : (ofBytes [UInt8.ofNat (48 + r.toNat)]).size = 1 := ofBytes_size _
      have hza : (ofBytes acc).size ≤ 19 := by rw [ofBytes_size]; exact hal
      have HBb := Lib.hid (hb.alloc hb.size (.cells #[.int .u8 (48 + r)] 5))
      have hm10 : (-10 : Int) < z := by omega
      by_cases hu : z < 10
      · have HRr := Lib.hid (show ofBytes [UInt8.ofNat (48 + r.toNat)] ++ ofBytes acc = ofBytes D by
          rw [hs, hrel, dec_small z.natAbs (by omega), show r.toNat = z.natAbs by omega]
          rfl)
        generalize hX : ofBytes [UInt8.ofNat (48 + r.toNat)] = X at *
        clear hrel hb hs hX hal
        go_wp2
        go_ret
        exact ⟨jretSt HRr.out, HBb.out⟩
      · have HRr := Lib.hid (show D = Lib.decDigits q.natAbs ++ (UInt8.ofNat (48 + r.toNat) :: acc) by
          rw [hrel, dec_big z.natAbs (by omega), show z.natAbs / 10 = q.natAbs by omega, show z.natAbs % 10 = r.toNat by omega]
          simp)
        have HSs := Lib.hid hs
        have hq0 : 0 ≤ q := by omega
        have hqz : q < z := by omega
        clear hrel hb hs hal
        generalize hX : ofBytes [UInt8.ofNat (48 + r.toNat)] = X at *
        clear hX
        go_wp2
        go_roundw
        case rel => exact ⟨q, UInt8.ofNat (48 + r.toNat) :: acc, (by first | rfl | rw [hq]), hq0, by omega, by rw [HSs.out], HRr.out, HBb.out⟩
        case measure => simp [RowKit.intOf]; omega
  · have hn' : n < 0 := by omega
    have hI : Lib.itoa n = 45 :: Lib.decDigits n.natAbs := by
      unfold Lib.itoa
      rw [if_pos hn']
    rw [hI]
    clear hI
    obtain ⟨D, hD⟩ : ∃ D, Lib.decDigits n.natAbs = D := ⟨_, rfl⟩
    rw [hD] at hlen ⊢
    have HDd := Lib.hid hD
    clear hD hn
    go_enter Tryz.func57, Tryz.ntmps57
    go_wp2
    go_loopw [3, 4] (fun s m wr => ∃ (z : Int) (acc : List UInt8), m = .int .i64 z ∧ z < 0 ∧ -9223372036854775808 ≤ z ∧ s = .string (ofBytes acc) ∧ D = Lib.decDigits z.natAbs ++ acc ∧ Below w.heap.size w wr) (fun _ m _ => (RowKit.intOf m).natAbs)
    case atStart => exact ⟨n, [], rfl, hn', h0, rfl, by rw [List.append_nil]; exact HDd.out.symm, Below.refl _ _⟩
    case round =>
      obtain ⟨z, acc, rfl, hz0, hz1, rfl, hrel, hb⟩ := hrel
      have hal : acc.length ≤ 19 := by rw [hrel, List.length_append] at hlen; omega
      obtain ⟨hr', hq'⟩ := tmod_neg z hz0
      obtain ⟨y, hy⟩ : ∃ y : Int, (-z) % 10 = y := ⟨_, rfl⟩
      obtain ⟨q, hq⟩ : ∃ q : Int, z.tdiv 10 = q := ⟨_, rfl⟩
      rw [hy] at hr'
      rw [hq] at hq'
      have hy0 : 0 ≤ y := by omega
      have hy9 : y ≤ 9 := by omega
      have hyn : y.toNat = z.natAbs % 10 := by omega
      have hqn : q.natAbs = z.natAbs / 10 := by omega
      have hs : ofBytes [UInt8.ofNat (48 + y.toNat)] ++ ofBytes acc = ofBytes (UInt8.ofNat (48 + y.toNat) :: acc) := by rw [← jb_app]; rfl
      have hz9 : (ofBytes [UInt8.ofNat (48 + y.toNat)]).size = 1 := ofBytes_size _
      have hza : (ofBytes acc).size ≤ 19 := by rw [ofBytes_size]; exact hal
      have hcv := conv_dig wr y y.toNat (by omega)
      have HBb := Lib.hid (hb.alloc hb.size (.cells #[.int .u8 (48 + y)] 5))
      have hz10 : z < 10 := by omega
      have h45 : ofBytes (45 :: D) = (⟨#[45]⟩ : ByteArray) ++ ofBytes D := by rw [show 45 :: D = [45] ++ D from rfl, jb_app]; rfl
      by_cases hu : z ≤ -10
      · have hu2 : ¬ (-10 : Int) < z := by omega
        have HRr := Lib.hid (show D = Lib.decDigits q.natAbs ++ (UInt8.ofNat (48 + y.toNat) :: acc) by
          rw [hrel, dec_big z.natAbs (by omega), hqn, hyn]
          simp)
        have HSs := Lib.hid hs
        have hq0 : q < 0 := by omega
        have hq1 : -9223372036854775808 ≤ q := by omega
        have hqz : z < q := by omega
        clear hrel hb hs hal hq' hyn hqn hy h45
        generalize hX : ofBytes [UInt8.ofNat (48 + y.toNat)] = X at *
        clear hX
        by_cases hyz : y = 0
        · have HYz := Lib.hid hyz
          have hr2 : z.tmod 10 = 0 := by rw [hr', hyz]; rfl
          rw [hyz, show (48 : Int) + 0 = 48 from rfl] at hcv
          clear hr' hyz hy0 hy9
          go_wp2
          go_roundw
          case rel => exact ⟨q, UInt8.ofNat (48 + y.toNat) :: acc, (by first | rfl | rw [hq]), hq0, hq1, by rw [HSs.out], HRr.out, by have := HBb.out; rw [HYz.out, show (48 : Int) + 0 = 48 from rfl] at this; exact this⟩
          case measure => simp [RowKit.intOf]; omega
        · have hy1 : 0 < y := by omega
          clear hyz
          go_wp2
          go_roundw
          case rel => exact ⟨q, UInt8.ofNat (48 + y.toNat) :: acc, (by first | rfl | rw [hq]), hq0, hq1, by rw [HSs.out], HRr.out, HBb.out⟩
          case measure => simp [RowKit.intOf]; omega
      · have hu2 : (-10 : Int) < z := by omega
        have hy1 : 0 < y := by omega
        have HRr := Lib.hid (show (⟨#[45]⟩ : ByteArray) ++ (ofBytes [UInt8.ofNat (48 + y.toNat)] ++ ofBytes acc) = ofBytes (45 :: D) by
          rw [hs, h45, hrel, dec_small z.natAbs (by omega), show y.toNat = z.natAbs by omega]
          rfl)
        clear hrel hb hs hal hq' hyn hqn hy h45 hq hu
        generalize hX : ofBytes [UInt8.ofNat (48 + y.toNat)] = X at *
        clear hX
        go_wp2
        go_ret
        exact ⟨jretSt HRr.out, HBb.out⟩
end Go.Proofs.YtggfblodjanfkaaGreatDoor
end
section
namespace Go.Proofs.YtggfblodjanfkaaGreatDoor
open Go.RowKit
theorem txVs_drop (l : List ValD) (i : Nat) (h : i < l.length) (b : Bool) : txVs b (l.drop i) = sepT b ++ (l[i].text ++ txVs false (l.drop (i + 1))) := by rw [List.drop_eq_getElem_cons h, txVs]
theorem txMs_drop (l : List MemD) (i : Nat) (h : i < l.length) (b : Bool) : txMs b (l.drop i) = sepT b ++ ((quoteJ l[i].key.data.toList ++ (58 :: l[i].v.text)) ++ txMs false (l.drop (i + 1))) := by rw [List.drop_eq_getElem_cons h, txMs, mtext_eq]
theorem okVs_at : ∀ (l : List ValD), okVs l = true → ∀ k ∈ l, k.okB = true
  | [], _, _, h => by cases h
  | x :: r, h, k, hk => by
    rw [okVs, Bool.and_eq_true] at h
    rcases List.mem_cons.1 hk with rfl | hk
    · exact h.1
    · exact okVs_at r h.2 k hk
theorem okMs_at : ∀ (l : List MemD) (keys : List ByteArray), okMs keys l = true → ∀ m ∈ l, vaL m.key.data.toList = true ∧ m.v.okB = true
  | [], _, _, _, h => by cases h
  | x :: r, keys, h, m, hm => by
    rw [okMs, Bool.and_eq_true, Bool.and_eq_true, Bool.and_eq_true, mok_eq] at h
    rcases List.mem_cons.1 hm with rfl | hm
    · exact h.1.2
    · exact okMs_at r _ h.2 m hm
theorem quote_ok (l : List UInt8) (h : vaL l = true) : quoteP l = (quoteJ l, 0) := by unfold quoteP; rw [if_pos h]
def wrZ (n : ValD) : ByteArray := if jvalB n = true then ofBytes n.text else ⟨#[]⟩
theorem wrP (n : ValD) : (chkZ n = 0 ∧ wrZ n = ofBytes n.text ∧ n.okB = true) ∨ (chkZ n = 22 ∧ wrZ n = ⟨#[]⟩) := by
  unfold chkZ wrZ
  rcases h : jvalB n with _ | _
  · exact .inr ⟨rfl, rfl⟩
  · refine .inl ⟨rfl, rfl, ?_⟩
    unfold jvalB at h
    rw [Bool.and_eq_true] at h
    exact h.1
end Go.Proofs.YtggfblodjanfkaaGreatDoor
end
