/- Packed from the texts JvK. -/
import Derived.Test.YtkkiklaoljdhhaaGreatDoorYkE
import Derived.Test.YtkkiklaoljdhhaaGreatDoorYkK
import Derived.Test.YtkkiklaoljdhhaaGreatDoorYkM
import Derived.BigGuard
section
namespace Go.Proofs.YtkkiklaoljdhhaaGreatDoor
open Go.RowKit
theorem jdrewN {B : Nat} {a w : World} (h : Below B a w) (n : Nat) : Below B a (w.drewN n) := h.trans ⟨rfl, rfl, rfl, Nat.le_refl _, fun _ _ => rfl⟩
def kOut (i : Nat) : Kres → ByteArray × Int × Int
  | .err a e => (⟨#[]⟩, a, e)
  | .ok k n => (ofBytes k, ((i + n : Nat) : Int), 0)
theorem getD_drop0 (l : List UInt8) (i : Nat) : (l.drop i).getD 0 0 = l.getD i 0 := by rw [j_getD, Nat.add_zero]
theorem keyK_no (i : Nat) (l : List UInt8) (keys : List ByteArray) (hi : i ≤ l.length) (h : l.getD i 0 ≠ 34) : kOut i (keyK i (l.drop i) keys) = (⟨#[]⟩, (wrongE l.length i).1, (wrongE l.length i).2) := by
  unfold keyK
  rw [if_pos (by rw [getD_drop0]; exact h), wrongE_drop l i hi]
  rfl
theorem keyK_bad (i : Nat) (l : List UInt8) (keys : List ByteArray) (k0 : List UInt8) (t e : Int) (h : l.getD i 0 = 34) (hP : parJ i (i + 1) (l.drop (i + 1)) [] = (k0, t, e)) (he : e ≠ 0) : kOut i (keyK i (l.drop i) keys) = (⟨#[]⟩, t, e) := by
  unfold keyK
  rw [if_neg (by rw [getD_drop0]; simpa using h), List.drop_drop, Nat.add_comm i 1, Nat.add_comm 1 i, hP, if_pos he]
  rfl
theorem keyK_dup (i : Nat) (l : List UInt8) (keys : List ByteArray) (k0 : List UInt8) (t : Int) (h : l.getD i 0 = 34) (hP : parJ i (i + 1) (l.drop (i + 1)) [] = (k0, t, 0)) (hk : keys.any (fun x => decide (x = ofBytes k0)) = true) : kOut i (keyK i (l.drop i) keys) = (⟨#[]⟩, (i : Int), 10) := by
  unfold keyK
  rw [if_neg (by rw [getD_drop0]; simpa using h), List.drop_drop, hP, if_neg (by simp), if_pos hk]
  rfl
theorem keyK_go (i : Nat) (l : List UInt8) (keys : List ByteArray) (k0 : List UInt8) (t : Nat) (h : l.getD i 0 = 34) (hP : parJ i (i + 1) (l.drop (i + 1)) [] = (k0, (t : Int), 0)) (hit : i ≤ t) (htl : t ≤ l.length) (hk : keys.any (fun x => decide (x = ofBytes k0)) = false) :
    kOut i (keyK i (l.drop i) keys) = if hasP l ((spP l t : Nat) : Int) [58] = true then (ofBytes k0, ((spP l t : Nat) : Int) + 1, 0) else (⟨#[]⟩, (wrongE l.length (spP l t)).1, (wrongE l.length (spP l t)).2) := by
  have e1 : ((t : Int) - (i : Int)).toNat = t - i := by omega
  have e2 : i + (t - i) = t := by omega
  have e3 : i + (t - i + spN (l.drop t)) = spP l t := by rw [spP_spN]; omega
  unfold keyK
  rw [if_neg (by rw [getD_drop0]; simpa using h), List.drop_drop, hP, if_neg (by simp), if_neg (by rw [hk]; decide)]
  simp only [e1, List.drop_drop, e2, e3]
  rw [wrongE_drop l (spP l t) (spP_le l t htl).2]
  have e4 : hasP l ((spP l t : Nat) : Int) [58] = [(58 : UInt8)].isPrefixOf (l.drop (spP l t)) := by unfold hasP; rw [Int.toNat_natCast, decide_eq_true (by omega), Bool.true_and]
  rw [e4]
  split
  · show (ofBytes k0, _, _) = _
    rw [show i + (t - i + spN (l.drop t) + 1) = spP l t + 1 by omega]
    rfl
  · rfl
def KeysAt (w : World) (q : Option Addr) (keys : List ByteArray) : Prop := ∀ j (h : j < keys.length), ∃ a, q = some a ∧ w.cell? (a.add (j * 9)) = some (.string keys[j])
theorem KeysAt.below {w w' : World} {q : Option Addr} {keys : List ByteArray} (h : KeysAt w q keys) (hb : Below w.heap.size w w') : KeysAt w' q keys := fun j hj => by
  obtain ⟨a, ha, hc⟩ := h j hj
  exact ⟨a, ha, (hb.cell (vblock_lt hc)).trans hc⟩
theorem jretK {a : ByteArray} {b c : Int} {T : ByteArray × Int × Int} (h : T = (a, b, c)) : Ending.returned (.tuple #[.string a, .int .i64 b, .int .i64 c]) = .returned (.tuple #[.string T.1, .int .i64 T.2.1, .int .i64 T.2.2]) := by rw [h]
set_option maxRecDepth 100000 in
set_option maxHeartbeats 32000000 in
theorem jref_key (s : ByteArray) (i : Nat) (K : Int) (B : Bool) (N : Int) (x : ByteArray) (p : Option Addr) (m c : Nat) (q : Option Addr) (d : Nat) (a0 : Int) (keys : List ByteArray) (w : World) (hs : s.size ≤ 1000000) (hi : i ≤ s.size) (hkl : (keys.length : Int) ≤ 140737488351232) (hq : KeysAt w q keys) :
    Calls Tryz.prog 76 #[.string s, .int .i64 i, .agg #[.int .i64 K, .bool B, .int .i64 N, .string x, .slice p m c, .slice q keys.length d, .int .i64 a0]] w fun e w' => e = .returned (.tuple #[.string (kOut i (keyK i (s.data.toList.drop i) keys)).1, .int .i64 (kOut i (keyK i (s.data.toList.drop i) keys)).2.1, .int .i64 (kOut i (keyK i (s.data.toList.drop i) keys)).2.2]) ∧ Below w.heap.size w w' := by
  have hsl : s.data.toList.length = s.size := by simp
  obtain ⟨T, hT⟩ : ∃ T, kOut i (keyK i (s.data.toList.drop i) keys) = T := ⟨_, rfl⟩
  have hb1 : Below w.heap.size w (w.alloc (.cells #[.int .i64 K, .bool B, .int .i64 N, .string x, .slice p m c, .slice q keys.length d, .int .i64 a0] 26)) := (Below.refl _ _).alloc (Nat.le_refl _) _
  have hz1 : (w.alloc (.cells #[.int .i64 K, .bool B, .int .i64 N, .string x, .slice p m c, .slice q keys.length d, .int .i64 a0] 26)).heap.size = w.heap.size + 1 := by simp
  rw [hT]
  by_cases h34 : i < s.size ∧ s.data.toList.getD i 0 = 34
  · obtain ⟨hlt, hg34⟩ := h34
    have hix := jix s .i64 (i : Int) i rfl hlt
    rw [hg34, show (((34 : UInt8).toNat : Nat) : Int) = 34 from rfl] at hix
    have hnl : ¬ s.size ≤ i := by omega
    have hiz : (i : Int) < (s.size : Int) := by omega
    have cP : ∀ wx, _ := fun wx => jref_Parse s (i : Int) wx hs
    have hpp : parP s.data.toList (i : Int) = parJ i (i + 1) (s.data.toList.drop (i + 1)) [] := by
      unfold parP
      rw [if_pos ⟨by omega, by rw [hsl]; exact hiz, by rw [Int.toNat_natCast]; exact hg34⟩, Int.toNat_natCast]
    obtain ⟨⟨k0, t, e⟩, hP⟩ : ∃ P, parJ i (i + 1) (s.data.toList.drop (i + 1)) [] = P := ⟨_, rfl⟩
    rw [hpp, hP] at cP
    simp only at cP
    have HBo := Lib.hid hb1
    by_cases he : e = 0
    case neg =>
      rw [keyK_bad i _ keys k0 t e hg34 hP he] at hT
      have HT := Lib.hid hT.symm
      have he1 : (e != 0) = true := by simpa using he
      have he2 : (e == 0) = false := by simpa using he
      clear hT hP hpp hg34 hb1 hsl hq he
      go_enter Tryz.func76, Tryz.ntmps76
      go_wp2_with fail
      refine (cP _).mono ?_
      rintro en w2 ⟨rfl, b2⟩
      have hB2 := Lib.hid (HBo.out.trans (b2.mono (by omega)))
      clear b2
      go_wp2
      exact bodyPost_ret (v := .tuple #[.string ⟨#[]⟩, .int .i64 t, .int .i64 e]) (by simp [results, Tryz.results76, go_sem]) rfl ⟨jretK HT.out, hB2.out⟩
    subst he
    have hbd := parJ_end i _ (s.data.toList.drop (i + 1)) (i + 1) [] (Nat.le_refl _) (by rw [hP])
    rw [hP, List.length_drop, hsl] at hbd
    simp only at hbd
    obtain ⟨t, rfl⟩ := Int.eq_ofNat_of_zero_le (by omega : 0 ≤ t)
    have hit : i + 2 ≤ t := by omega
    have hts : t ≤ s.size := by omega
    have HDUP := Lib.hid (keyK_dup i s.data.toList keys k0 t hg34 hP)
    have HGO := Lib.hid (keyK_go i s.data.toList keys k0 t hg34 hP (by omega) (by omega))
    have cS : ∀ wx, _ := fun wx => jref_spaces s t wx hs (by omega)
    have hsp := spP_le s.data.toList t (by omega)
    rw [hsl] at hsp
    have cH : ∀ wx, _ := fun wx => tref_Has s ⟨#[58]⟩ ((spP s.data.toList t : Nat) : Int) wx hs (by decide) (by decide) (by omega)
    rw [show ((⟨#[58]⟩ : ByteArray).data.toList) = [58] from rfl] at cH
    have cW : ∀ wx, _ := fun wx => jref_wrong s (spP s.data.toList t) wx
    rw [hsl] at HGO
    have HT := Lib.hid hT
    clear hT hP hpp hg34 hb1 hbd hsl
    generalize hasP s.data.toList _ [58] = hb at *
    generalize spP s.data.toList t = u at *
    generalize keyK i (s.data.toList.drop i) keys = KK at *
    generalize (wrongE s.size u).1 = y1 at *
    generalize (wrongE s.size u).2 = y2 at *
    unfold errV at cW
    have HQ := Lib.hid hq
    clear hq
    go_enter Tryz.func76, Tryz.ntmps76
    go_wp2_with fail
    refine (cP _).mono ?_
    rintro en w2 ⟨rfl, b2⟩
    have f5 : w2.cell? ⟨w.heap.size, 5, none⟩ = some (.slice q keys.length d) := by
      rw [b2.cell (p := ⟨w.heap.size, 5, none⟩) (by show w.heap.size < _; omega)]
      simp
    have hB2 := Lib.hid (HBo.out.trans (b2.mono (by omega)))
    have HQ2 := Lib.hid ((HQ.out.below HBo.out).below (b2.mono (by omega)))
    clear b2 cP hix
    go_wp2
    go_loop [13] (fun v => ∃ j : Nat, j ≤ keys.length ∧ v = .int .i64 j ∧ keys.any (fun x => decide (x = ofBytes k0)) = (keys.drop j).any (fun x => decide (x = ofBytes k0))) (fun v => keys.length - (RowKit.intOf v).toNat)
    case atStart => exact ⟨0, Nat.zero_le _, rfl, rfl⟩
    case round =>
      obtain ⟨j, hj, rfl, hrel⟩ := hrel
      by_cases hjl : j < keys.length
      · obtain ⟨a, rfl, hc⟩ := HQ2.out j hjl
        have hjz : (j : Int) < (keys.length : Int) := by omega
        rw [List.drop_eq_getElem_cons hjl, List.any_cons] at hrel
        obtain ⟨ky, hky⟩ : ∃ y, keys[j] = y := ⟨_, rfl⟩
        rw [hky] at hc hrel
        obtain ⟨cc, hcc⟩ : ∃ c, a.add (j * 9) = c := ⟨_, rfl⟩
        rw [hcc] at hc
        obtain ⟨kz, hkz⟩ : ∃ y, ofBytes k0 = y := ⟨_, rfl⟩
        rw [hkz] at hrel
        by_cases hk : ky = kz
        · rw [decide_eq_true hk, Bool.true_or] at hrel
          have HX := Lib.hid (HT.out.symm.trans (HDUP.out (by rw [hkz]; exact hrel)))
          rw [← hkz] at hk
          subst hk
          clear hrel hky hkz cS cH cW
          go_wp2
          exact bodyPost_ret (v := .tuple #[.string ⟨#[]⟩, .int .i64 i, .int .i64 10]) (by simp [results, Tryz.results76, go_sem]) rfl ⟨jretK HX.out, hB2.out⟩
        · rw [decide_eq_false hk, Bool.false_or] at hrel
          have HR := Lib.hid hrel
          rw [← hkz] at hk
          have h1 := jstr_ne hk
          have h2 := jstr_ne2 hk
          have h3 := jstr_ne3 hk
          subst hkz
          clear hrel hk hky cS cH cW
          go_wp2
          go_round
          case rel => exact ⟨j + 1, by omega, by go_num, HR.out⟩
          case measure => simp [RowKit.intOf]; omega
      · obtain rfl : j = keys.length := by omega
        rw [List.drop_eq_nil_of_le (Nat.le_refl _), List.any_nil] at hrel
        have HX := Lib.hid (HT.out.symm.trans (HGO.out hrel))
        have hjz : ¬ (keys.length : Int) < (keys.length : Int) := by omega
        clear hrel
        go_wp2_with fail
        refine (cS _).mono ?_
        rintro en w3 ⟨rfl, rfl⟩
        go_wp2_with fail
        refine (cH _).mono ?_
        rintro en w3 ⟨rfl, rfl⟩
        rcases hb with _ | _
        · have HY := Lib.hid (HX.out.trans (if_neg (by decide)))
          go_wp2_with fail
          refine (cW _).mono ?_
          rintro en w3 ⟨rfl, b3⟩
          have hB3 := Lib.hid (hB2.out.trans (b3.mono hB2.out.size))
          clear b3
          go_wp2
          go_quiet (fail)
          go_wp2
          exact bodyPost_ret (v := .tuple #[.string ⟨#[]⟩, .int .i64 y1, .int .i64 y2]) (by simp [results, Tryz.results76, go_sem]) rfl ⟨jretK HY.out, jdrewN (hB3.out.alloc hB3.out.size _) _⟩
        · have HY := Lib.hid (HX.out.trans (if_pos rfl))
          go_wp2
          exact bodyPost_ret (v := .tuple #[.string (ofBytes k0), .int .i64 ((u : Int) + 1), .int .i64 0]) (by simp [results, Tryz.results76, go_sem]) rfl ⟨jretK HY.out, hB2.out⟩
  · have hne : s.data.toList.getD i 0 ≠ 34 := fun e => by
      have : ¬ i < s.size := fun h => h34 ⟨h, e⟩
      rw [List.getD_eq_getElem?_getD, List.getElem?_eq_none (by omega)] at e
      exact absurd e (by decide)
    rw [keyK_no i _ keys (by omega) hne, hsl] at hT
    have cW : ∀ wx, _ := fun wx => jref_wrong s i wx
    generalize (wrongE s.size i).1 = y1 at *
    generalize (wrongE s.size i).2 = y2 at *
    unfold errV at cW
    have HT := Lib.hid hT.symm
    have HBo := Lib.hid hb1
    by_cases hlt : i < s.size
    · have hix := jix s .i64 (i : Int) i rfl hlt
      have e34 := u8_at (s.data.toList.getD i 0) 34
      rw [show (((34 : UInt8).toNat : Nat) : Int) = 34 from rfl] at e34
      generalize s.data.toList.getD i 0 = b at *
      have hb34 : ((b.toNat : Int) == 34) = false := by
        have : ¬ (b.toNat : Int) = 34 := fun e => hne (e34.2 e)
        simpa using this
      have hb34' : ((b.toNat : Int) != 34) = true := by
        have : ¬ (b.toNat : Int) = 34 := fun e => hne (e34.2 e)
        simpa using this
      have hiz : (i : Int) < (s.size : Int) := by omega
      have hnl : ¬ s.size ≤ i := by omega
      clear hT hb1 h34 hne e34 hsl hq
      go_enter Tryz.func76, Tryz.ntmps76
      go_wp2_with fail
      refine (cW _).mono ?_
      rintro e w2 ⟨rfl, b2⟩
      have hB2 := Lib.hid (HBo.out.trans (b2.mono (by omega)))
      clear b2
      go_wp2
      go_quiet (fail)
      go_wp2
      exact bodyPost_ret (v := .tuple #[.string ⟨#[]⟩, .int .i64 y1, .int .i64 y2]) (by simp [results, Tryz.results76, go_sem]) rfl ⟨jretK HT.out, jdrewN (hB2.out.alloc hB2.out.size _) _⟩
    · have hnl : s.size ≤ i := by omega
      have hiz : ¬ (i : Int) < (s.size : Int) := by omega
      clear hT hb1 h34 hne hsl hq
      go_enter Tryz.func76, Tryz.ntmps76
      go_wp2_with fail
      refine (cW _).mono ?_
      rintro e w2 ⟨rfl, b2⟩
      have hB2 := Lib.hid (HBo.out.trans (b2.mono (by omega)))
      clear b2
      go_wp2
      go_quiet (fail)
      go_wp2
      exact bodyPost_ret (v := .tuple #[.string ⟨#[]⟩, .int .i64 y1, .int .i64 y2]) (by simp [results, Tryz.results76, go_sem]) rfl ⟨jretK HT.out, jdrewN (hB2.out.alloc hB2.out.size _) _⟩
end Go.Proofs.YtkkiklaoljdhhaaGreatDoor
end
