/- The reference of layer 4: Parse. -/
import Derived.Test.YtdbpkggjnmapiaaDoorRfcF
import Derived.Test.YtdbpkggjnmapiaaDoorStrK
import Derived.Deep.DeepCutAuto
import Derived.Deep.RegionWith
import Derived.IntWalk
namespace Go.Proofs.YtdbpkggjnmapiaaDoor
open Go.RowKit

theorem rretP {j k : IntKind} {p : Int × Int} {a b : Int} (h : p = (a, b)) : Ending.returned (.tuple #[.int j a, .int k b]) = .returned (.tuple #[.int j p.1, .int k p.2]) := by rw [h]
theorem rblock_lt {w : World} {a : Addr} {v : Value} (hc : w.cell? a = some v) : a.block < w.heap.size := by
  rcases Nat.lt_or_ge a.block w.heap.size with h' | h'
  · exact h'
  · simp [World.cell?, Array.getElem?_eq_none h'] at hc
def daysS : ByteArray := ⟨#[83, 117, 110, 77, 111, 110, 84, 117, 101, 87, 101, 100, 84, 104, 117, 70, 114, 105, 83, 97, 116]⟩
def monthsS : ByteArray := ⟨#[74, 97, 110, 70, 101, 98, 77, 97, 114, 65, 112, 114, 77, 97, 121, 74, 117, 110, 74, 117, 108, 65, 117, 103, 83, 101, 112, 79, 99, 116, 78, 111, 118, 68, 101, 99]⟩
theorem ob_get (w : List UInt8) (i : Nat) (h : i < (ofBytes w).size) : (ofBytes w)[i]'h = w.getD i 0 := by
  have h2 : i < w.length := by rw [ofBytes_size] at h; exact h
  simp [ofBytes, ByteArray.getElem_eq_getElem_data, List.getD, h2]
theorem ob_slice (w : List UInt8) (a b : Nat) : (ofBytes w).extract a b = ofBytes ((w.drop a).take (b - a)) := by
  rw [ext_from, ofBytes_list]
theorem ob_app (a : List UInt8) : ofBytes a ++ ⟨#[58, 48, 48]⟩ = ofBytes (a ++ [58, 48, 48]) := by
  apply str_ext; rw [ofBytes_list]; simp [ofBytes]
theorem find_day (n : List UInt8) (wx : World) (hn : n.length ≤ 1000000) : Calls Tryd.prog 35 #[.string daysS, .string (ofBytes n)] wx fun e w' => e = .returned (.int .i64 (findP dayNames n)) ∧ Below wx.heap.size wx w' := by
  have c := rref_Find daysS (ofBytes n) wx (by decide) (by rw [ofBytes_size]; omega)
  rw [ofBytes_list] at c
  exact c
theorem find_month (n : List UInt8) (wx : World) (hn : n.length ≤ 1000000) : Calls Tryd.prog 35 #[.string monthsS, .string (ofBytes n)] wx fun e w' => e = .returned (.int .i64 (findP monthNames n)) ∧ Below wx.heap.size wx w' := by
  have c := rref_Find monthsS (ofBytes n) wx (by decide) (by rw [ofBytes_size]; omega)
  rw [ofBytes_list] at c
  exact c

set_option maxRecDepth 100000 in
set_option maxHeartbeats 8000000 in
theorem rref_Parse (s : ByteArray) (w : World) (hs : s.size ≤ 1000000) :
    Calls Tryd.prog 13 #[.string s] w fun e w' => e = .returned (.tuple #[.int .i64 (parse822 s).1, .int .i64 (parse822 s).2]) ∧ Below w.heap.size w w' := by
  have hsl : s.data.toList.length = s.size := by simp
  have hcl := rcol_length s.data.toList
  have c1 : ∀ wx, _ := fun wx => ref_Collapse s wx (by omega)
  have hcs : (ofBytes (collapse s.data.toList)).size ≤ 1000000 := by rw [ofBytes_size]; omega
  have c2 : ∀ wx, _ := fun wx => rref_Words (ofBytes (collapse s.data.toList)) wx hcs
  rw [ofBytes_list] at c2
  obtain ⟨w0, rest, hw0⟩ := wordsGo_ne [] (collapse s.data.toList)
  have hws : words (collapse s.data.toList) = w0 :: rest := hw0
  have hsz : ∀ x ∈ w0 :: rest, x.length ≤ 1000000 := by
    rw [← hw0]; exact wordsGo_size 1000000 _ _ (by rw [List.length_nil]; omega)
  have hp : parse822 s = wordsV (dropDay (w0 :: rest)) := by unfold parse822; rw [hws]
  rw [hws] at c2
  have HP := Lib.hid hp
  clear hp hw0 hws hcl hcs
  generalize ofBytes (collapse s.data.toList) = cs at *
  go_enter Tryd.func13, Tryd.ntmps13
  go_wp2_with fail
  refine (c1 _).mono ?_
  rintro e w1 ⟨rfl, b1⟩
  go_wp2_with fail
  refine (c2 _).mono ?_
  rintro e w2 ⟨v, rfl, hown, b2⟩
  obtain ⟨g, cap, rfl, hg, hcap⟩ : ∃ g cap, v = .slice (some ⟨g, 0, none⟩) (w0 :: rest).length cap ∧ v.ownBlock = some g ∧ (w0 :: rest).length ≤ cap := by
    rcases hown.2 with ⟨h1, h2⟩ | ⟨g, cap, cur, rfl, h3⟩
    · simp at h2
    · exact ⟨g, cap, rfl, rfl, h3.2.2.1⟩
  have hcell : ∀ i x, (w0 :: rest)[i]? = some x → w2.cell? ⟨g, i, none⟩ = some (.string (ofBytes x)) := by
    intro i x hx
    have := hown.cells (g := g) hg i (.string (ofBytes x)) (by simp only [strs, List.getElem?_map, hx, Option.map_some])
    rw [addr_add] at this
    exact this
  have hgl := (hown.lt g hg).1
  clear hown hg c1 c2
  have hb := b1.trans (b2.mono b1.size)
  have h0 := hcell 0 w0 rfl
  have hgw := rblock_lt h0
  simp only at hgw
  go_upto_region 2 with fail
  go_cut [33] (fun c wx => c = .bool (dayB w0) ∧ Below w2.heap.size w2 wx)
  case first =>
    have hsz0 : (ofBytes w0).size = w0.length := ofBytes_size w0
    clear hcell
    by_cases h4 : w0.length = 4
    · have hn3 : 3 < (ofBytes w0).size := by omega
      have hget := ob_get w0 3 hn3
      have hsl := ob_slice w0 0 3
      rw [List.drop_zero, Nat.sub_zero] at hsl
      have cF : ∀ wx, _ := fun wx => find_day (w0.take 3) wx (by rw [List.length_take]; omega)
      have hdb : dayB w0 = ((w0.getD 3 0).toNat == 44 && decide (0 ≤ findP dayNames (w0.take 3))) := by unfold dayB; rw [h4]; rfl
      have hdl : (findP dayNames (w0.take 3)) = findP dayNames (w0.take 3) := rfl
      generalize ofBytes (w0.take 3) = n3 at *
      generalize findP dayNames (w0.take 3) = fd at *
      generalize w0.getD 3 0 = x at *
      have hsz4 : (ofBytes w0).size = 4 := by omega
      clear hsz0
      generalize ofBytes w0 = W0 at *
      have HD := Lib.hid hdb
      clear hdb hdl
      by_cases h44 : x.toNat = 44
      · have hx44 : (x.toNat : Int) = 44 := by omega
        by_cases hfd : 0 ≤ fd
        · go_wp2_with fail
          refine (cF _).mono ?_
          rintro e w3 ⟨rfl, b3⟩
          go_wp2
          go_meet
          exact ⟨by rw [HD.out, h44, decide_eq_true hfd]; rfl, b3⟩
        · go_wp2_with fail
          refine (cF _).mono ?_
          rintro e w3 ⟨rfl, b3⟩
          go_wp2
          go_meet
          exact ⟨by rw [HD.out, h44]; rfl, b3⟩
      · have hx44 : ((x.toNat : Int) == 44) = false := by simp; omega
        have h44' : (x.toNat == 44) = false := by simpa using h44
        go_wp2
        go_meet
        exact ⟨by rw [HD.out, h44']; rfl, Below.refl _ _⟩
    · have hne : ((ofBytes w0).size : Int) ≠ 4 := by omega
      have hneb : (((ofBytes w0).size : Int) == 4) = false := by simpa using hne
      have HD := Lib.hid (show dayB w0 = false by unfold dayB; rw [show (w0.length == 4) = false by simpa using h4]; rfl)
      clear hsz0 h4 hne
      generalize ofBytes w0 = W0 at *
      go_wp2
      go_meet
      exact ⟨by rw [HD.out], Below.refl _ _⟩
  case rest =>
  obtain ⟨rfl, b3⟩ := hcut
  generalize wc = w3 at *
  have hgw3 : g < w3.heap.size := Nat.lt_of_lt_of_le hgw b3.size
  have hb3 : Below w.heap.size w w3 := hb.trans (b3.mono hb.size)
  have hcell3 : ∀ i x, (w0 :: rest)[i]? = some x → w3.cell? ⟨g, i, none⟩ = some (.string (ofBytes x)) := fun i x hx => (b3.cell (p := ⟨g, i, none⟩) hgw).trans (hcell i x hx)
  clear hcell h0 hgw hgl b1 b2 b3 hb
  go_upto_if 33 with fail
  go_cut [4] (fun l wx => ∃ o c ds, l = .slice (some ⟨g, o, none⟩) ds.length c ∧ dropDay (w0 :: rest) = ds ∧ (∀ i x, ds[i]? = some x → wx.cell? ⟨g, o + i, none⟩ = some (.string (ofBytes x))) ∧ wx = w3)
  case first =>
    rcases hd : dayB w0 with _ | _
    · have hdd : dropDay (w0 :: rest) = w0 :: rest := by rw [dropDay, hd]; rfl
      go_wp2
      go_meet
      exact ⟨0, cap, w0 :: rest, rfl, hdd, fun i x hx => by rw [Nat.zero_add]; exact hcell3 i x hx, rfl⟩
    · have hdd : dropDay (w0 :: rest) = rest := by rw [dropDay, hd]; rfl
      have hcap' : rest.length + 1 ≤ cap := hcap
      go_wp2
      all_goals go_meet
      all_goals first
        | exact ⟨1, _, rest, rfl, hdd, fun i x hx => by rw [Nat.add_comm]; exact hcell3 (i + 1) x (by simpa using hx), rfl⟩
        | (have hr : rest = [] := List.eq_nil_of_length_eq_zero (by omega)
           subst hr
           exact ⟨0, _, [], rfl, hdd, fun i x hx => by simp at hx, rfl⟩)
  case rest =>
  obtain ⟨o, c, ds, rfl, hds, hcs, rfl⟩ := hcut
  have hds2 : ∀ x ∈ ds, x.length ≤ 1000000 := fun x hx => by
    rw [← hds, dropDay] at hx
    split at hx
    · exact hsz x (List.mem_cons_of_mem _ hx)
    · exact hsz x hx
  have HP2 := Lib.hid (HP.out.trans (congrArg wordsV hds))
  clear HP hds hcell3 hcap hsz
  rcases hlen : ds with _ | ⟨a0, _ | ⟨a1, _ | ⟨a2, _ | ⟨a3, _ | ⟨a4, _ | ⟨a5, r⟩⟩⟩⟩⟩⟩
  all_goals (try (
    subst hlen
    have HQ := Lib.hid (HP2.out.trans (show _ = ((0, 20) : Int × Int) from rfl))
    clear hcs hds2 HP2
    go_wp2
    go_ret2
    exact ⟨rretP HQ.out, hb3⟩))
  subst hlen
  have e0 := hcs 0 a0 rfl
  have e1 := hcs 1 a1 rfl
  have e2 := hcs 2 a2 rfl
  have e3 := hcs 3 a3 rfl
  have e4 := hcs 4 a4 rfl
  rw [Nat.add_zero] at e0
  have l0 := hds2 a0 (by simp)
  have l1 := hds2 a1 (by simp)
  have l2 := hds2 a2 (by simp)
  have l3 := hds2 a3 (by simp)
  have l4 := hds2 a4 (by simp)
  have k1 : ∀ wx, _ := fun wx => rref_whole (ofBytes a0) 1 wx (by omega) (by omega) (by rw [ofBytes_size]; omega)
  have k2 : ∀ wx, _ := fun wx => rref_whole (ofBytes a0) 2 wx (by omega) (by omega) (by rw [ofBytes_size]; omega)
  rw [wz_zs, show (1 : Int).toNat = 1 from rfl] at k1
  rw [wz_zs, show (2 : Int).toNat = 2 from rfl] at k2
  have HD := Lib.hid (show dayZ a0 = if wholeZ (wz a0) 1 < 0 then wholeZ (wz a0) 2 else wholeZ (wz a0) 1 from rfl)
  have hdb := wholeZ_bd (wz a0) 1
  have hdb2 := wholeZ_bd (wz a0) 2
  simp only [show (10 : Int) ^ 1 = 10 from rfl] at hdb
  simp only [show (10 : Int) ^ 2 = 100 from rfl] at hdb2
  generalize wc = w4 at *
  clear hcs hds2
  generalize hW0 : ofBytes a0 = W0 at *
  clear hW0
  generalize wholeZ (wz a0) 1 = p1 at *
  generalize wholeZ (wz a0) 2 = p2 at *
  go_upto_if 44 with (go_at_call 36; refine (k1 _).mono ?_; rintro e w' ⟨rfl, rfl⟩)
  go_cut [5] (fun d wx => d = .int .i64 (dayZ a0) ∧ wx = w4)
  case first =>
    by_cases hp : p1 < 0
    · rw [if_pos hp] at HD
      go_wp2_with fail
      refine (k2 _).mono ?_
      rintro e w' ⟨rfl, rfl⟩
      go_wp2
      go_meet
      exact ⟨by rw [HD.out], rfl⟩
    · rw [if_neg hp] at HD
      go_wp2
      go_meet
      exact ⟨by rw [HD.out], rfl⟩
  case rest =>
  obtain ⟨rfl, rfl⟩ := hcut
  generalize wc = w4 at *
  have hd9 : -1 ≤ dayZ a0 ∧ dayZ a0 < 100 := by rw [HD.out]; split <;> omega
  generalize hdz : dayZ a0 = dz at *
  clear k1 k2 HD hdb hdb2 e0
  have hs3 : (ofBytes a3).size = a3.length := ofBytes_size a3
  have HC := Lib.hid (show clockW a3 = if a3.length = 5 then a3 ++ [58, 48, 48] else a3 from rfl)
  go_upto_if 54 with fail
  go_cut [6] (fun c wx => c = .string (ofBytes (clockW a3)) ∧ wx = w4)
  case first =>
    by_cases h5 : a3.length = 5
    · rw [if_pos h5] at HC
      have hz5 : (a3.length : Int) = 5 := by omega
      have hcat := ob_app a3
      go_wp2
      all_goals go_meet
      all_goals exact ⟨by rw [HC.out, ← hcat], rfl⟩
    · rw [if_neg h5] at HC
      have hz5 : ((a3.length : Int) == 5) = false := by simp; omega
      go_wp2
      all_goals go_meet
      all_goals exact ⟨by rw [HC.out], rfl⟩
  case rest =>
  obtain ⟨rfl, rfl⟩ := hcut
  generalize wc = w4 at *
  have hcl : (clockW a3).length ≤ 1000003 := by rw [HC.out]; split <;> first | (rw [List.length_append]; simp; omega) | omega
  generalize hC : clockW a3 = C at *
  clear HC hs3 e3
  have kz : ∀ wx, _ := fun wx => rref_zone (ofBytes a4) wx (by rw [ofBytes_size]; omega)
  have hzb := zoneV_bd (ofBytes a4)
  generalize hzz : zoneV (ofBytes a4) = z at *
  obtain ⟨z1, z2⟩ := z
  simp only at kz hzb
  go_wp2_with fail
  refine (kz _).mono ?_
  rintro e w5 ⟨rfl, b5⟩
  have e1' := (b5.cell (p := ⟨g, o + 1, none⟩) hgw3).trans e1
  have e2' := (b5.cell (p := ⟨g, o + 2, none⟩) hgw3).trans e2
  have hb5 := hb3.trans (b5.mono hb3.size)
  clear kz e1 e2 e4 b5 hb3
  go_upto_region 13 with fail
  go_cut [80] (fun b wx => b = .bool (!(z2 && clockB C)) ∧ wx = w5)
  case first =>
    rcases z2 with _ | _
    · go_wp2
      go_meet
      exact ⟨rfl, rfl⟩
    · by_cases h8 : C.length = 8
      · have hs8 : (ofBytes C).size = 8 := (ofBytes_size C).trans h8
        have hg2 := ob_get C 2 (by rw [hs8]; decide)
        have hg5 := ob_get C 5 (by rw [hs8]; decide)
        have HB := Lib.hid (show clockB C = ((C.getD 2 0).toNat == 58 && (C.getD 5 0).toNat == 58) by unfold clockB; rw [h8]; rfl)
        generalize C.getD 2 0 = x at *
        generalize C.getD 5 0 = y at *
        generalize hCB : ofBytes C = CB at *
        clear hCB
        by_cases hx : x.toNat = 58
        · have hxz : (x.toNat : Int) = 58 := by omega
          by_cases hy : y.toNat = 58
          · have hyz : (y.toNat : Int) = 58 := by omega
            go_wp2
            go_meet
            exact ⟨by rw [HB.out, hx, hy]; rfl, rfl⟩
          · have hyz : ((y.toNat : Int) != 58) = true := by simp; omega
            have hy' : (y.toNat == 58) = false := by simpa using hy
            go_wp2
            go_meet
            exact ⟨by rw [HB.out, hx, hy']; rfl, rfl⟩
        · have hxz : ((x.toNat : Int) != 58) = true := by simp; omega
          have hx' : (x.toNat == 58) = false := by simpa using hx
          go_wp2
          go_meet
          exact ⟨by rw [HB.out, hx']; rfl, rfl⟩
      · have hs8 : (((ofBytes C).size : Int) != 8) = true := by rw [ofBytes_size]; simp; omega
        have HB := Lib.hid (show clockB C = false by unfold clockB; rw [show (C.length == 8) = false by simpa using h8]; rfl)
        clear h8
        generalize hCB : ofBytes C = CB at *
        clear hCB
        go_wp2
        go_meet
        exact ⟨by rw [HB.out]; rfl, rfl⟩
  case rest =>
  obtain ⟨rfl, rfl⟩ := hcut
  generalize wc = w5 at *
  have hfive : parse822 s = (if z2 && clockB C && (fiveSec a0 a1 a2 C).2 == 0 then (if inTime ((fiveSec a0 a1 a2 C).1 - z1 * 60) then ((fiveSec a0 a1 a2 C).1 - z1 * 60, 0) else (0, 3)) else (0, 20)) := by
    rw [HP2.out]
    show fiveV a0 a1 a2 a3 a4 = _
    unfold fiveV
    rw [hC, hzz]
  rcases hzc : (z2 && clockB C) with _ | _
  · rw [hzc] at hfive
    have HQ := Lib.hid (hfive.trans (show _ = ((0, 20) : Int × Int) from rfl))
    clear hfive hzc
    go_wp2
    go_ret2
    exact ⟨rretP HQ.out, hb5⟩
  · rw [hzc, Bool.true_and] at hfive
    have h8 : C.length = 8 := by
      rw [Bool.and_eq_true] at hzc
      have := hzc.2
      unfold clockB at this
      simp only [Bool.and_eq_true, beq_iff_eq] at this
      exact this.1.1
    obtain ⟨rfl, _⟩ := Bool.and_eq_true_iff.1 hzc
    have hs8 : (ofBytes C).size = 8 := by rw [ofBytes_size]; exact h8
    have s1 := ob_slice C 0 2
    have s2 := ob_slice C 3 5
    have s3 := ob_slice C 6 8
    rw [List.drop_zero] at s1
    rw [List.take_of_length_le (by rw [List.length_drop]; omega)] at s3
    simp only [show 5 - 3 = 2 from rfl] at s1 s2
    have i1 : ∀ wx, _ := fun wx => slice_to (ofBytes C) 2 (by omega) (by omega) wx
    have i2 : ∀ wx, _ := fun wx => slice_mid (ofBytes C) 3 5 (by omega) (by omega) (by omega) wx
    have i3 : ∀ wx, _ := fun wx => slice_from (ofBytes C) 6 (by omega) (by omega) wx
    rw [show (2 : Int).toNat = 2 from rfl, s1] at i1
    rw [show (3 : Int).toNat = 3 from rfl, show (5 : Int).toNat = 5 from rfl, s2] at i2
    rw [show (6 : Int).toNat = 6 from rfl, hs8, s3] at i3
    have kY : ∀ wx, _ := fun wx => rref_year (ofBytes a2) wx (by rw [ofBytes_size]; omega)
    have kM : ∀ wx, _ := fun wx => find_month a1 wx l1
    have kA : ∀ wx, _ := fun wx => rref_whole (ofBytes (C.take 2)) 2 wx (by omega) (by omega) (by rw [ofBytes_size, List.length_take]; omega)
    have kB : ∀ wx, _ := fun wx => rref_whole (ofBytes ((C.drop 3).take 2)) 2 wx (by omega) (by omega) (by rw [ofBytes_size, List.length_take]; omega)
    have kC : ∀ wx, _ := fun wx => rref_whole (ofBytes (C.drop 6)) 2 wx (by omega) (by omega) (by rw [ofBytes_size, List.length_drop]; omega)
    rw [wz_zs] at kY kA kB kC
    rw [show (2 : Int).toNat = 2 from rfl] at kA kB kC
    have kS : ∀ wx, _ := fun wx => cref_Seconds (yearZ (wz a2)) (findP monthNames a1 + 1) dz (wholeZ (wz (C.take 2)) 2) (wholeZ (wz ((C.drop 3).take 2)) 2) (wholeZ (wz (C.drop 6)) 2) wx
    have hfs : fiveSec a0 a1 a2 C = secV (yearZ (wz a2)) (findP monthNames a1 + 1) dz (wholeZ (wz (C.take 2)) 2) (wholeZ (wz ((C.drop 3).take 2)) 2) (wholeZ (wz (C.drop 6)) 2) := by rw [← hdz]; rfl
    have hfm := findF_bd monthNames a1 (monthNames.length + 1) 0
    have hfm2 : -1 ≤ findP monthNames a1 ∧ findP monthNames a1 ≤ 36 := hfm
    have hsb := secV_bd (yearZ (wz a2)) (findP monthNames a1 + 1) dz (wholeZ (wz (C.take 2)) 2) (wholeZ (wz ((C.drop 3).take 2)) 2) (wholeZ (wz (C.drop 6)) 2)
    have hso : (fiveSec a0 a1 a2 C).2 = 0 ∨ (fiveSec a0 a1 a2 C).2 = 3 := by rw [hfs]; unfold secV; split <;> simp
    rw [← hfs] at kS hsb
    generalize fiveSec a0 a1 a2 C = fv at *
    generalize yearZ (wz a2) = Y at *
    generalize findP monthNames a1 = fm at *
    generalize wholeZ (wz (C.take 2)) 2 = p at *
    generalize wholeZ (wz ((C.drop 3).take 2)) 2 = q at *
    generalize wholeZ (wz (C.drop 6)) 2 = r at *
    generalize ofBytes (C.take 2) = C1 at *
    generalize ofBytes ((C.drop 3).take 2) = C2 at *
    generalize ofBytes (C.drop 6) = C3 at *
    generalize ofBytes C = CB at *
    generalize ofBytes a1 = A1 at *
    generalize ofBytes a2 = A2 at *
    obtain ⟨f1, f2⟩ := fv
    simp only at hfive kS hsb hso
    clear hfs hfm s1 s2 s3 hC hzz hzc h8 hdz l0 l1 l2 l3 l4 hcl HP2
    have hw1 : IntKind.i64.wrap (fm + 1) = fm + 1 := IntWalk.i64_in _ (by omega)
    have hgw5 : g < w5.heap.size := rblock_lt e1'
    have H5 := Lib.hid hfive
    clear hfive
    go_upto_region 15 with fail
    go_cut [9, 10] (fun a e wx => a = .int .i64 f1 ∧ e = .int .i64 f2 ∧ Below w5.heap.size w5 wx)
    case first =>
      go_region_with (first
        | (go_at_call 38; refine (kY _).mono ?_; rintro e w' ⟨rfl, rfl⟩)
        | (go_at_call 35; refine (kM _).mono ?_; rintro e w6 ⟨rfl, b6⟩)
        | (go_at_call_of 36 (Value.string C1); refine (kA _).mono ?_; rintro e w' ⟨rfl, rfl⟩)
        | (go_at_call_of 36 (Value.string C2); refine (kB _).mono ?_; rintro e w' ⟨rfl, rfl⟩)
        | (go_at_call_of 36 (Value.string C3); refine (kC _).mono ?_; rintro e w' ⟨rfl, rfl⟩)
        | (go_at_call 18; refine (kS _).mono ?_; rintro e w' ⟨rfl, rfl⟩))
      all_goals go_wp2
      all_goals go_meet
      all_goals exact ⟨rfl, rfl, by first | exact b6 | exact ((Below.refl w5.heap.size w5).drew).trans b6 | exact (((Below.refl w5.heap.size w5).drew).trans b6).drew | exact b6.drew⟩
    case rest =>
    obtain ⟨rfl, rfl, b7⟩ := hcut
    have hb7 := hb5.trans (b7.mono hb5.size)
    clear kY kM kA kB kC kS i1 i2 i3 e1' e2'
    rcases hso with rfl | rfl
    · have hsb2 := hsb rfl
      obtain ⟨hs1, hs2⟩ := hsb2
      obtain ⟨hz1, hz2⟩ := hzb
      clear hsb
      rcases (by omega : f1 - z1 * 60 < -62135596800 ∨ (-62135596800 ≤ f1 - z1 * 60 ∧ 253402300799 < f1 - z1 * 60) ∨ (-62135596800 ≤ f1 - z1 * 60 ∧ f1 - z1 * 60 ≤ 253402300799)) with g1 | ⟨g1, g2⟩ | ⟨g1, g2⟩
      · have HQ := Lib.hid (H5.out.trans (show _ = ((0, 3) : Int × Int) by rw [show inTime (f1 - z1 * 60) = false from decide_eq_false (by omega)]; rfl))
        go_wp2
        go_ret2
        exact ⟨rretP HQ.out, hb7⟩
      · have HQ := Lib.hid (H5.out.trans (show _ = ((0, 3) : Int × Int) by rw [show inTime (f1 - z1 * 60) = false from decide_eq_false (by omega)]; rfl))
        go_wp2
        go_ret2
        exact ⟨rretP HQ.out, hb7⟩
      · have HQ := Lib.hid (H5.out.trans (show _ = (f1 - z1 * 60, (0 : Int)) by rw [show inTime (f1 - z1 * 60) = true from decide_eq_true ⟨g1, g2⟩]; rfl))
        go_wp2
        go_ret2
        exact ⟨rretP HQ.out, hb7⟩
    · have HQ := Lib.hid (H5.out.trans (show _ = ((0, 20) : Int × Int) from rfl))
      clear hsb
      go_wp2
      go_ret2
      exact ⟨rretP HQ.out, hb7⟩
end Go.Proofs.YtdbpkggjnmapiaaDoor
