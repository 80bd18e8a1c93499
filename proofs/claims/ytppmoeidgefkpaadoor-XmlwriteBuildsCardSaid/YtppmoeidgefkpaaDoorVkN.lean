/- Packed from the texts WrE WrF. -/
import Derived.Test.YtppmoeidgefkpaaDoorVTextF
import Derived.Test.YtppmoeidgefkpaaDoorVkC
import Derived.Test.YtppmoeidgefkpaaDoorVkM
section
namespace Go.Proofs.YtppmoeidgefkpaaDoor
open Go.RowKit Go.Maps
set_option maxRecDepth 100000 in
theorem xw_hasChars (s : ByteArray) (w : World) (hs : s.size ≤ 1000000) (hT : HasTabs w) : Calls Tryd.prog 44 #[.string s] w fun e w' => e = .returned (.bool (charsB s)) ∧ Below w.heap.size w w' := by
  have c1 := fun wx ht => text_Check s wx (by unfold maxLen; omega) ht
  have hc : charsB s = ((chk s).2 == 0) := rfl
  rw [hc]
  clear hc
  generalize chk s = p at *
  obtain ⟨p1, p2⟩ := p
  simp only at c1 ⊢
  by_cases h : p2 = 0
  · subst h
    go_enter Tryd.func44, Tryd.ntmps44
    go_wp2_with fail
    refine (c1 _ hT).mono ?_
    rintro e w1 ⟨rfl, b1⟩
    go_wp2
    go_ret
    exact ⟨rfl, b1⟩
  · have hz : ((p2 : Int) == 0) = false := by simp; omega
    have hb : (p2 == 0) = false := by simpa using h
    rw [hb]
    go_enter Tryd.func44, Tryd.ntmps44
    go_wp2_with fail
    refine (c1 _ hT).mono ?_
    rintro e w1 ⟨rfl, b1⟩
    go_wp2
    go_ret
    exact ⟨rfl, b1⟩
set_option maxRecDepth 100000 in
set_option maxHeartbeats 8000000 in
theorem xw_validData (n : NodeD) (v : Value) (w : World) (hm : n.mass ≤ 1000000) (hT : HasTabs w) (hn : NodeIs w n v) : Calls Tryd.prog 37 #[v] w fun e w' => e = .returned (.bool n.dataOk) ∧ Below w.heap.size w w' := by
  have hme := mass_eq n
  have hml := masses_len n.kids
  have hsl := sum_len n.al
  have hD : n.dataOk = (!noneB n.tx && (charsB n.tx && (noneB n.sp && (noneB n.nm && (n.al.length == 0 && n.kids.length == 0))))) := rfl
  have c1 : ∀ wx, HasTabs wx → _ := fun wx ht => xw_hasChars n.tx wx (by omega) ht
  obtain ⟨pa, ca, pk, ck, rfl, -, -⟩ := (node_is w n v).1 hn
  have hal : (n.al.length : Int) ≤ 1000000 := by omega
  have hkl : (n.kids.length : Int) ≤ 1000000 := by omega
  have hbe : ∀ o : Obj, Below w.heap.size w (w.alloc o) := fun o => (Below.refl _ _).alloc (Nat.le_refl _) _
  have hze : ∀ o : Obj, (w.alloc o).heap.size = w.heap.size + 1 := fun o => by simp
  have hTe : ∀ o : Obj, HasTabs (w.alloc o) := fun o => HasTabs_below hT (hbe o)
  have HB := Lib.hid (Blk.new w #[.int .i64 n.kind, .string n.sp, .string n.nm, .slice pa n.al.length ca, .slice pk n.kids.length ck, .string n.tx, .int .i64 n.at'] 25)
  rw [hD]
  clear hn hme hml hsl hm hD hT
  generalize n.kind = kd at *
  generalize n.sp = s1 at *
  generalize n.nm = s2 at *
  generalize n.tx = s3 at *
  generalize n.al.length = la at *
  generalize n.kids.length = lk at *
  generalize n.at' = at0 at *
  by_cases h3 : s3.size = 0
  · obtain rfl := str_none h3
    go_enter Tryd.func37, Tryd.ntmps37
    go_wp2
    go_ret
    exact ⟨rfl, hbe _⟩
  rw [noneB_f h3]
  obtain ⟨u1, u2, u3, u4⟩ := str_some h3
  clear h3
  generalize charsB s3 = B at *
  cases B
  · go_enter Tryd.func37, Tryd.ntmps37
    go_wp2_with fail
    refine (c1 _ (hTe _)).mono ?_
    rintro e w1 ⟨rfl, b1⟩
    have b2 := (hbe _).trans (b1.mono (by rw [hze]; omega))
    go_wp2
    go_ret
    exact ⟨rfl, b2⟩
  by_cases h1 : s1.size = 0
  case neg =>
    rw [noneB_f h1]
    obtain ⟨v1, v2, v3, v4⟩ := str_some h1
    clear h1
    
    go_enter Tryd.func37, Tryd.ntmps37
    go_wp2_with fail
    refine (c1 _ (hTe _)).mono ?_
    rintro e w1 ⟨rfl, b1⟩
    have b2 := (hbe _).trans (b1.mono (by rw [hze]; omega))
    have PB := HB.out.more b1
    have f1 : w1.cell? ⟨w.heap.size, 1, none⟩ = some (.string _) := PB.cell 1
    have f2 : w1.cell? ⟨w.heap.size, 2, none⟩ = some (.string _) := PB.cell 2
    have f3 : w1.cell? ⟨w.heap.size, 3, none⟩ = some (.slice pa _ ca) := PB.cell 3
    have f4 : w1.cell? ⟨w.heap.size, 4, none⟩ = some (.slice pk _ ck) := PB.cell 4
    clear PB b1
    go_wp2
    go_ret
    exact ⟨rfl, b2⟩
  obtain rfl := str_none h1
  by_cases h2 : s2.size = 0
  case neg =>
    rw [noneB_f h2]
    obtain ⟨v1, v2, v3, v4⟩ := str_some h2
    clear h2
    
    go_enter Tryd.func37, Tryd.ntmps37
    go_wp2_with fail
    refine (c1 _ (hTe _)).mono ?_
    rintro e w1 ⟨rfl, b1⟩
    have b2 := (hbe _).trans (b1.mono (by rw [hze]; omega))
    have PB := HB.out.more b1
    have f1 : w1.cell? ⟨w.heap.size, 1, none⟩ = some (.string _) := PB.cell 1
    have f2 : w1.cell? ⟨w.heap.size, 2, none⟩ = some (.string _) := PB.cell 2
    have f3 : w1.cell? ⟨w.heap.size, 3, none⟩ = some (.slice pa _ ca) := PB.cell 3
    have f4 : w1.cell? ⟨w.heap.size, 4, none⟩ = some (.slice pk _ ck) := PB.cell 4
    clear PB b1
    go_wp2
    go_ret
    exact ⟨rfl, b2⟩
  obtain rfl := str_none h2
  by_cases h4 : la = 0
  case neg =>
    have q1 : (la == 0) = false := by simpa using h4
    have q2 : ((la : Int) == 0) = false := by simp; omega
    rw [q1]
    clear h4 q1
    
    go_enter Tryd.func37, Tryd.ntmps37
    go_wp2_with fail
    refine (c1 _ (hTe _)).mono ?_
    rintro e w1 ⟨rfl, b1⟩
    have b2 := (hbe _).trans (b1.mono (by rw [hze]; omega))
    have PB := HB.out.more b1
    have f1 : w1.cell? ⟨w.heap.size, 1, none⟩ = some (.string _) := PB.cell 1
    have f2 : w1.cell? ⟨w.heap.size, 2, none⟩ = some (.string _) := PB.cell 2
    have f3 : w1.cell? ⟨w.heap.size, 3, none⟩ = some (.slice pa _ ca) := PB.cell 3
    have f4 : w1.cell? ⟨w.heap.size, 4, none⟩ = some (.slice pk _ ck) := PB.cell 4
    clear PB b1
    go_wp2
    go_ret
    exact ⟨rfl, b2⟩
  subst h4
  by_cases h5 : lk = 0
  case neg =>
    have q1 : (lk == 0) = false := by simpa using h5
    have q2 : ((lk : Int) == 0) = false := by simp; omega
    rw [q1]
    clear h5 q1
    
    go_enter Tryd.func37, Tryd.ntmps37
    go_wp2_with fail
    refine (c1 _ (hTe _)).mono ?_
    rintro e w1 ⟨rfl, b1⟩
    have b2 := (hbe _).trans (b1.mono (by rw [hze]; omega))
    have PB := HB.out.more b1
    have f1 : w1.cell? ⟨w.heap.size, 1, none⟩ = some (.string _) := PB.cell 1
    have f2 : w1.cell? ⟨w.heap.size, 2, none⟩ = some (.string _) := PB.cell 2
    have f3 : w1.cell? ⟨w.heap.size, 3, none⟩ = some (.slice pa _ ca) := PB.cell 3
    have f4 : w1.cell? ⟨w.heap.size, 4, none⟩ = some (.slice pk _ ck) := PB.cell 4
    clear PB b1
    go_wp2
    go_ret
    exact ⟨rfl, b2⟩
  subst h5
  · skip
    
    go_enter Tryd.func37, Tryd.ntmps37
    go_wp2_with fail
    refine (c1 _ (hTe _)).mono ?_
    rintro e w1 ⟨rfl, b1⟩
    have b2 := (hbe _).trans (b1.mono (by rw [hze]; omega))
    have PB := HB.out.more b1
    have f1 : w1.cell? ⟨w.heap.size, 1, none⟩ = some (.string _) := PB.cell 1
    have f2 : w1.cell? ⟨w.heap.size, 2, none⟩ = some (.string _) := PB.cell 2
    have f3 : w1.cell? ⟨w.heap.size, 3, none⟩ = some (.slice pa _ ca) := PB.cell 3
    have f4 : w1.cell? ⟨w.heap.size, 4, none⟩ = some (.slice pk _ ck) := PB.cell 4
    clear PB b1
    go_wp2
    go_ret
    exact ⟨rfl, b2⟩
theorem inNms_iff (s : ByteArray) (l : List AttrD) : inNms s l = true ↔ ∃ x ∈ l, x.nm = s := by unfold inNms; simp
set_option maxRecDepth 100000 in
set_option maxHeartbeats 16000000 in
theorem xw_validAttrs (al : List AttrD) (p : Option Addr) (c : Nat) (w : World) (hA : AttrsAt w p al) (hl : al.length ≤ 1000000) (hm : ∀ x ∈ al, x.nm.size ≤ 1000000 ∧ x.va.size ≤ 1000000) (hT : HasTabs w) :
    Calls Tryd.prog 42 #[.slice p al.length c] w fun e w' => e = .returned (.bool (attrsOk [] al)) ∧ Below w.heap.size w w' := by
  have hmm := @run_makeMap Tryd.prog
  have HAM := Lib.hid hm
  have HT := Lib.hid hT
  have HA := Lib.hid hA
  have hal : (al.length : Int) ≤ 1000000 := by omega
  obtain ⟨R, hR⟩ : ∃ R, attrsOk [] al = R := ⟨_, rfl⟩
  rw [hR]
  have HD := Lib.hid hR
  have hS0 : NmSet (w.alloc (.map #[] 0)) w.heap.size [] := World.ownsMap_made (H := Unit) w Tryd.prog 9 (plainElem Tryd.prog 4)
  have hB0 : Below w.heap.size w (w.alloc (.map #[] 0)) := (Below.refl _ _).alloc (Nat.le_refl _) _
  clear hm hT hA hR
  go_enter Tryd.func42, Tryd.ntmps42
  go_wp2
  go_loopw [9] (fun q wr => ∃ i : Nat, i ≤ al.length ∧ q = .int .i64 i ∧ attrsOk [] al = attrsOk (al.take i) (al.drop i) ∧ NmSet wr w.heap.size (al.take i).reverse ∧ Below w.heap.size w wr) (fun q _ => al.length - (intOf q).toNat)
  case atStart => exact ⟨0, Nat.zero_le _, rfl, rfl, hS0, hB0⟩
  case round =>
    clear hmm hS0 hB0
    obtain ⟨i, hi, rfl, hrel, hS, hbel⟩ := hrel
    obtain ⟨wo, rfl⟩ : ∃ wo, wo = wr := ⟨_, rfl⟩
    have hzo := hbel.size
    have hSlt := hS.lt
    by_cases hlt : i < al.length
    case pos =>
      have hiz : (i : Int) < (al.length : Int) := by omega
      rw [attrsOk_drop al i hlt] at hrel
      obtain ⟨a, rfl, a0, a1, a2, a3⟩ := HA.out.below hbel i hlt
      have hxm := HAM.out _ (List.getElem_mem hlt)
      have htk : al.take (i + 1) = al.take i ++ [al[i]] := List.take_succ_eq_append_getElem hlt
      obtain ⟨x, hx⟩ : ∃ x, al[i] = x := ⟨_, rfl⟩
      rw [hx] at a0 a1 a2 a3 hrel hxm htk
      obtain ⟨xs, xn, xv, xa⟩ := x
      simp only at a0 a1 a2 a3 hrel hxm htk
      obtain ⟨cc, hcc⟩ : ∃ c, a.add (i * 4) = c := ⟨_, rfl⟩
      rw [hcc] at a0 a1 a2 a3
      simp only [Addr.add, Nat.reduceEqDiff, ↓reduceIte] at a1 a2 a3
      have hao : attrOk ⟨xs, xn, xv, xa⟩ = (noneB xs && (isQB xn && charsB xv)) := rfl
      rw [hao] at hrel
      have hbw : ∀ o : Obj, Below w.heap.size w (wo.alloc o) := fun o => hbel.alloc (by omega) _
      have cQ : ∀ wx, HasTabs wx → _ := fun wx ht => tok_qname xn wx hxm.1 ht
      have cV : ∀ wx, HasTabs wx → _ := fun wx ht => xw_hasChars xv wx hxm.2 ht
      have hze : ∀ o : Obj, (wo.alloc o).heap.size = wo.heap.size + 1 := fun o => by simp
      have HX := Lib.hid (Blk.new wo #[.string xs, .string xn, .string xv, .int .i64 xa] 37)
      have HTK := Lib.hid htk
      have HS := Lib.hid hS
      have hTo : ∀ o : Obj, HasTabs (wo.alloc o) := fun o => HasTabs_below HT.out (hbw o)
      have hbo : ∀ o : Obj, Below wo.heap.size wo (wo.alloc o) := fun o => (Below.refl _ _).alloc (Nat.le_refl _) _
      have hxn := hxm.1
      clear hao hx hxm htk hS
      by_cases e1 : xs.size = 0
      case neg =>
        rw [noneB_f e1] at hrel
        obtain ⟨v1, v2, v3, v4⟩ := str_some e1
        have HR := Lib.hid hrel
        clear e1 hrel
        go_wp2
        go_ret
        exact ⟨trN (by rw [← HD.out, HR.out]; rfl), hbw _⟩
      obtain rfl := str_none e1
      generalize isQB xn = Q at *
      cases Q
      · have HR := Lib.hid hrel
        clear e1 hrel
        go_wp2_with fail
        refine (cQ _ (hTo _)).mono ?_
        rintro e w2 ⟨rfl, b2⟩
        have b3 := (hbw _).trans (b2.mono (by rw [hze]; omega))
        go_wp2
        go_ret
        exact ⟨trN (by rw [← HD.out, HR.out]; rfl), b3⟩
      generalize charsB xv = V at *
      cases V
      · have HR := Lib.hid hrel
        clear e1 hrel
        go_wp2_with fail
        refine (cQ _ (hTo _)).mono ?_
        rintro e w2 ⟨rfl, b2⟩
        have t2 := HasTabs_below (hTo _) b2
        have b3 := (hbw _).trans (b2.mono (by rw [hze]; omega))
        have x2 : w2.cell? ⟨wo.heap.size, 2, none⟩ = some (.string xv) := (HX.out.more b2).cell 2
        go_wp2_with fail
        refine (cV _ t2).mono ?_
        rintro e w3 ⟨rfl, b4⟩
        have b5 := b3.trans (b4.mono (by have := b2.size; rw [hze] at this; omega))
        go_wp2
        go_ret
        exact ⟨trN (by rw [← HD.out, HR.out]; rfl), b5⟩
      replace hrel : attrsOk [] al = (!inNms xn (al.take i) && attrsOk (al.take (i + 1)) (al.drop (i + 1))) := hrel
      clear e1
      by_cases hin : inNms xn (al.take i) = true
      · have HR := Lib.hid hrel
        have HIN := Lib.hid hin
        clear hrel hin
        go_wp2_with fail
        refine (cQ _ (hTo _)).mono ?_
        rintro e w2 ⟨rfl, b2⟩
        have t2 := HasTabs_below (hTo _) b2
        have b3 := (hbw _).trans (b2.mono (by rw [hze]; omega))
        have b6 := (hbo _).trans (b2.mono (by rw [hze]; omega))
        have z2 := b2.size
        rw [hze] at z2
        have x2 : w2.cell? ⟨wo.heap.size, 2, none⟩ = some (.string xv) := (HX.out.more b2).cell 2
        go_wp2_with fail
        refine (cV _ t2).mono ?_
        rintro e w3 ⟨rfl, b4⟩
        have b5 := b3.trans (b4.mono (by omega))
        have b7 := b6.trans (b4.mono (by omega))
        have x1 : w3.cell? ⟨wo.heap.size, 1, none⟩ = some (.string xn) := ((HX.out.more b2).more b4).cell 1
        have hat := (HS.out.same (b7.block _ hSlt)).look_yes xn (by unfold maxLen; omega) (by
          obtain ⟨y, hy, he⟩ := (inNms_iff _ _).1 HIN.out
          exact ⟨y, List.mem_reverse.2 hy, he⟩)
        clear b2 b3 b4 b6 b7
        go_wp2
        go_ret
        exact ⟨trN (by rw [← HD.out, HR.out, HIN.out]; rfl), b5⟩
      · have hin0 : inNms xn (al.take i) = false := by simpa using hin
        rw [hin0] at hrel
        have HR := Lib.hid (show attrsOk [] al = attrsOk (al.take (i + 1)) (al.drop (i + 1)) from hrel)
        have HIN := Lib.hid (show ¬ ∃ y ∈ (al.take i).reverse, y.nm = xn from fun ⟨y, hy, he⟩ => hin ((inNms_iff _ _).2 ⟨y, List.mem_reverse.1 hy, he⟩))
        clear hrel hin hin0
        go_wp2_with fail
        refine (cQ _ (hTo _)).mono ?_
        rintro e w2 ⟨rfl, b2⟩
        have t2 := HasTabs_below (hTo _) b2
        have b3 := (hbw _).trans (b2.mono (by rw [hze]; omega))
        have b6 := (hbo _).trans (b2.mono (by rw [hze]; omega))
        have z2 := b2.size
        rw [hze] at z2
        have x2 : w2.cell? ⟨wo.heap.size, 2, none⟩ = some (.string xv) := (HX.out.more b2).cell 2
        go_wp2_with fail
        refine (cV _ t2).mono ?_
        rintro e w3 ⟨rfl, b4⟩
        have b5 := b3.trans (b4.mono (by omega))
        have b7 := b6.trans (b4.mono (by omega))
        have x1 : w3.cell? ⟨wo.heap.size, 1, none⟩ = some (.string xn) := ((HX.out.more b2).more b4).cell 1
        have hS3 := HS.out.same (b7.block _ hSlt)
        have hat := hS3.look_no xn (by unfold maxLen; omega) HIN.out
        have hkey := Go.WideMaps.keyOf_string_mk (P := Tryd.prog) Tryd.underlying9 (s := xn) (by unfold maxLen; omega)
        have hmapO := hS3
        unfold NmSet at hmapO
        have HB5 := Lib.hid b5
        have hrl : (al.take i).reverse.length ≤ 1000000 := by rw [List.length_reverse, List.length_take]; omega
        clear b2 b3 b4 b6 b7 hS3 a0 a1 a2 a3 x2 b5
        go_wp2_with (at_mapUpdate; refine wpList_mapUpdate_own _ rfl _ _ _ 78 rfl 9 4 slaw Tryd.underlying78 (plainElem (H := Unit) Tryd.prog 4) w.heap.size (al.take i).reverse.length _ rfl hmapO (by unfold maxLen; omega) _ _ _ rfl rfl hkey _ [] (plainElem_bool Tryd.underlying4 true) ?_; intro w6 hmap6 hgr6)
        have HN := Lib.hid (show NmSet w6 w.heap.size (al.take (i + 1)).reverse by
          rw [HTK.out, List.reverse_append, List.reverse_singleton, List.singleton_append]
          exact hmap6)
        have HB6 := Lib.hid (HB5.out.grown hgr6 (by have := HB5.out.size; omega) (fun g hg => by cases hg; exact Nat.le_refl _))
        clear hmap6 hgr6
        go_roundw
        case rel => exact ⟨i + 1, by omega, by go_num, HR.out, HN.out, HB6.out⟩
        case measure => simp [intOf]; omega
    case neg =>
      obtain rfl : i = al.length := by omega
      have HR := Lib.hid (show attrsOk [] al = true by rw [hrel, List.drop_eq_nil_of_le (Nat.le_refl _)]; rfl)
      have hiz : ¬ (al.length : Int) < (al.length : Int) := by omega
      clear hrel hS
      go_wp2
      go_ret
      exact ⟨trN (by rw [← HD.out, HR.out]), hbel⟩
end Go.Proofs.YtppmoeidgefkpaaDoor
end
section
namespace Go.Proofs.YtppmoeidgefkpaaDoor
open Go.RowKit Go.Maps
def NodeAt (k : NodeD) (d : Nat) : Prop := ∀ (v : Value) (wx : World), HasTabs wx → NodeIs wx k v → Calls Tryd.prog 27 #[v, .int .i64 (d : Int)] wx fun e w' => e = .returned (.bool (k.okD d)) ∧ Below wx.heap.size wx w'
set_option maxRecDepth 100000 in
set_option maxHeartbeats 16000000 in
theorem xw_validKids (kids : List NodeD) (d : Nat) (hI : ∀ k ∈ kids, NodeAt k d) (pk : Option Addr) (ck : Nat) (w : World) (hK : KidsAt w pk 0 kids) (hl : kids.length ≤ 1000000) (hT : HasTabs w) :
    Calls Tryd.prog 43 #[.slice pk kids.length ck, .int .i64 (d : Int)] w fun e w' => e = .returned (.bool (okDs false kids d)) ∧ Below w.heap.size w w' := by
  have HI := Lib.hid hI
  have HT := Lib.hid hT
  have HK := Lib.hid hK
  have hkl : (kids.length : Int) ≤ 1000000 := by omega
  obtain ⟨R, hR⟩ : ∃ R, okDs false kids d = R := ⟨_, rfl⟩
  rw [hR]
  have HD := Lib.hid hR.symm
  clear hI hT hK hR
  go_enter Tryd.func43, Tryd.ntmps43
  go_wp2
  go_loopw [9] (fun q wr => ∃ i : Nat, i ≤ kids.length ∧ q = .int .i64 i ∧ okDs false kids d = okDs (prevC kids i) (kids.drop i) d ∧ Below w.heap.size w wr) (fun q _ => kids.length - (intOf q).toNat)
  case atStart => exact ⟨0, Nat.zero_le _, rfl, rfl, Below.refl _ _⟩
  case round =>
    obtain ⟨i, hi, rfl, hrel, hbel⟩ := hrel
    obtain ⟨wk, rfl⟩ : ∃ wk, wk = wr := ⟨_, rfl⟩
    have hzk := hbel.size
    by_cases hlt : i < kids.length
    case pos =>
      have hiz2 : (i : Int) < (kids.length : Int) := by omega
      rw [okDs_drop kids i d hlt] at hrel
      have HK0 := Lib.hid (HK.out.below hbel)
      obtain ⟨a, v0, v1, v2, v3, v4, v5, v6, rfl, ⟨a0, a1, a2, a3, a4, a5, a6⟩, hk⟩ := KidsAt.get kids 0 HK0.out i hlt
      rw [Nat.zero_add] at a0 a1 a2 a3 a4 a5 a6
      have c2 := HI.out _ (List.getElem_mem hlt)
      unfold NodeAt at c2
      obtain ⟨k, hkk⟩ : ∃ k, kids[i] = k := ⟨_, rfl⟩
      rw [hkk] at hk c2 hrel
      obtain ⟨ka, da, kq, dk, hv⟩ := node_form hk
      simp only [Value.agg.injEq, Array.mk.injEq, List.cons.injEq, and_true] at hv
      obtain ⟨rfl, rfl, rfl, rfl, rfl, rfl, rfl⟩ := hv
      obtain ⟨cc, hcc⟩ : ∃ c, a.add (i * 7) = c := ⟨_, rfl⟩
      rw [hcc] at a0 a1 a2 a3 a4 a5 a6
      simp only [Addr.add, Nat.reduceEqDiff, ↓reduceIte] at a1 a2 a3 a4 a5 a6
      have hbe : ∀ o : Obj, Below wk.heap.size wk (wk.alloc o) := fun o => (Below.refl _ _).alloc (Nat.le_refl _) _
      have hbw : ∀ o : Obj, Below w.heap.size w (wk.alloc o) := fun o => hbel.alloc (by omega) _
      have hze : ∀ o : Obj, (wk.alloc o).heap.size = wk.heap.size + 1 := fun o => by simp
      have cK : ∀ o : Obj, _ := fun o => c2 _ (wk.alloc o) (HasTabs_below HT.out (hbw o)) (hk.below (hbe o))
      clear c2 hk hkk
      by_cases hi0 : i = 0
      case pos =>
        subst hi0
        rw [prevC_zero, Bool.false_and] at hrel
        generalize k.okD d = V at *
        cases V
        · have HR := Lib.hid (show R = false by rw [HD.out, hrel]; rfl)
          clear hrel
          go_wp2_with fail
          refine (cK _).mono ?_
          rintro e w2 ⟨rfl, b2⟩
          have b3 := (hbw _).trans (b2.mono (by rw [hze]; omega))
          go_wp2
          go_ret
          exact ⟨trN (by rw [HR.out]), b3⟩
        · have HR := Lib.hid (show okDs false kids d = okDs (prevC kids (0 + 1)) (kids.drop (0 + 1)) d from hrel)
          clear hrel
          go_wp2_with fail
          refine (cK _).mono ?_
          rintro e w2 ⟨rfl, b2⟩
          have b3 := (hbw _).trans (b2.mono (by rw [hze]; omega))
          go_wp2
          go_roundw
          case rel => exact ⟨0 + 1, by omega, by go_num, HR.out, b3⟩
          case measure => simp [intOf]; omega
      obtain ⟨j, rfl⟩ : ∃ j, i = j + 1 := ⟨i - 1, by omega⟩
      have hj0 : (0 : Int) < ((j + 1 : Nat) : Int) := by omega
      rw [prevC_succ kids j (by omega)] at hrel
      obtain ⟨a', u0, u1, u2, u3, u4, u5, u6, ha', ⟨d0, -, -, -, -, -, -⟩, hk2⟩ := KidsAt.get kids 0 HK0.out j (by omega)
      cases ha'
      rw [Nat.zero_add] at d0
      obtain ⟨l, hll⟩ : ∃ l, kids[j] = l := ⟨_, rfl⟩
      rw [hll] at hk2 hrel
      obtain ⟨qa, fa, qq, fk, hv⟩ := node_form hk2
      simp only [Value.agg.injEq, Array.mk.injEq, List.cons.injEq, and_true] at hv
      obtain ⟨rfl, rfl, rfl, rfl, rfl, rfl, rfl⟩ := hv
      have hd1 : l.isCD = decide (l.kind = 1) := rfl
      have hd2 : k.isCD = decide (k.kind = 1) := rfl
      rw [hd1, hd2] at hrel
      obtain ⟨dd, hdd⟩ : ∃ c, a.add (j * 7) = c := ⟨_, rfl⟩
      rw [hdd] at d0
      have hwj2 : IntKind.i64.wrap ((j : Int) + 1 - 1) = (j : Int) := by rw [show (j : Int) + 1 - 1 = (j : Int) by omega]; exact wrap_small _ (by omega) (by omega)
      have hjl : (j : Int) < (kids.length : Int) := by omega
      have E1 : ∀ o : Obj, (wk.alloc o).cell? dd = some (.int .i64 l.kind) := fun o => ((hbe o).cell (kblock_lt d0)).trans d0
      clear hk2 hll hd1 hd2
      by_cases y1 : k.kind = 1
      case neg =>
        have y2 : (k.kind == 1) = false := by simpa using y1
        rw [decide_eq_false y1, Bool.and_false] at hrel
        clear y1
        generalize k.okD d = V at *
        cases V
        · have HR := Lib.hid (show R = false by rw [HD.out, hrel]; rfl)
          clear hrel
          go_wp2_with fail
          refine (cK _).mono ?_
          rintro e w2 ⟨rfl, b2⟩
          have b3 := (hbw _).trans (b2.mono (by rw [hze]; omega))
          go_wp2
          go_ret
          exact ⟨trN (by rw [HR.out]), b3⟩
        · have HR := Lib.hid (show okDs false kids d = okDs (prevC kids (j + 1 + 1)) (kids.drop (j + 1 + 1)) d from hrel)
          clear hrel
          go_wp2_with fail
          refine (cK _).mono ?_
          rintro e w2 ⟨rfl, b2⟩
          have b3 := (hbw _).trans (b2.mono (by rw [hze]; omega))
          go_wp2
          go_roundw
          case rel => exact ⟨j + 1 + 1, by omega, by go_num, HR.out, b3⟩
          case measure => simp [intOf]; omega
      rw [decide_eq_true y1, Bool.and_true] at hrel
      rw [y1] at cK a0
      clear y1
      by_cases x1 : l.kind = 1
      case neg =>
        have x2 : (l.kind == 1) = false := by simpa using x1
        rw [decide_eq_false x1] at hrel
        clear x1
        generalize k.okD d = V at *
        cases V
        · have HR := Lib.hid (show R = false by rw [HD.out, hrel]; rfl)
          clear hrel
          go_wp2_with fail
          refine (cK _).mono ?_
          rintro e w2 ⟨rfl, b2⟩
          have b3 := (hbw _).trans (b2.mono (by rw [hze]; omega))
          go_wp2
          go_ret
          exact ⟨trN (by rw [HR.out]), b3⟩
        · have HR := Lib.hid (show okDs false kids d = okDs (prevC kids (j + 1 + 1)) (kids.drop (j + 1 + 1)) d from hrel)
          clear hrel
          go_wp2_with fail
          refine (cK _).mono ?_
          rintro e w2 ⟨rfl, b2⟩
          have b3 := (hbw _).trans (b2.mono (by rw [hze]; omega))
          go_wp2
          go_roundw
          case rel => exact ⟨j + 1 + 1, by omega, by go_num, HR.out, b3⟩
          case measure => simp [intOf]; omega
      · have HR := Lib.hid (show R = false by rw [HD.out, hrel, decide_eq_true x1]; rfl)
        rw [x1] at E1 d0
        clear hrel x1
        go_wp2
        go_ret
        exact ⟨trN (by rw [HR.out]), hbw _⟩
    case neg =>
      obtain rfl : i = kids.length := by omega
      have HR := Lib.hid (show R = true by rw [HD.out, hrel, List.drop_eq_nil_of_le (Nat.le_refl _), okDs])
      have hiz2 : ¬ (kids.length : Int) < (kids.length : Int) := by omega
      clear hrel
      go_wp2
      go_ret
      exact ⟨trN (by rw [HR.out]), hbel⟩
set_option maxRecDepth 100000 in
set_option maxHeartbeats 16000000 in
theorem xw_validElement (n : NodeD) (d : Nat) (hd : d ≤ 101) (hI : d ≤ 100 → ∀ k ∈ n.kids, NodeAt k (d + 1)) (v : Value) (w : World) (hk0 : n.kind = 0) (hm : n.mass ≤ 1000000) (hT : HasTabs w) (hn : NodeIs w n v) :
    Calls Tryd.prog 36 #[v, .int .i64 (d : Int)] w fun e w' => e = .returned (.bool (n.okD d)) ∧ Below w.heap.size w w' := by
  have hme := mass_eq n
  have hml := masses_len n.kids
  have hsl := sum_len n.al
  have hD : n.okD d = (decide (d ≤ 100) && ((noneB n.sp && (noneB n.tx && isQB n.nm)) && (attrsOk [] n.al && okDs false n.kids (d + 1)))) := by rw [okD_eq, if_neg (by omega), if_pos hk0]; rfl
  have ham : ∀ x ∈ n.al, x.nm.size ≤ 1000000 ∧ x.va.size ≤ 1000000 := fun x hx => by
    have := sum_mem _ x hx
    omega
  have c1 : ∀ wx, HasTabs wx → _ := fun wx ht => tok_qname n.nm wx (by omega) ht
  obtain ⟨pa, ca, pk, ck, rfl, hA, hK⟩ := (node_is w n v).1 hn
  have cA : ∀ wx, AttrsAt wx pa n.al → HasTabs wx → _ := fun wx ha ht => xw_validAttrs n.al pa ca wx ha (by omega) ham ht
  have cK : d ≤ 100 → ∀ wx, KidsAt wx pk 0 n.kids → HasTabs wx → _ := fun h wx hk ht => xw_validKids n.kids (d + 1) (hI h) pk ck wx hk (by omega) ht
  rw [show ((d + 1 : Nat) : Int) = (d : Int) + 1 by omega] at cK
  have HB := Lib.hid (Blk.new w #[.int .i64 n.kind, .string n.sp, .string n.nm, .slice pa n.al.length ca, .slice pk n.kids.length ck, .string n.tx, .int .i64 n.at'] 25)
  have hbe : ∀ o : Obj, Below w.heap.size w (w.alloc o) := fun o => (Below.refl _ _).alloc (Nat.le_refl _) _
  have hze : ∀ o : Obj, (w.alloc o).heap.size = w.heap.size + 1 := fun o => by simp
  have hTe : ∀ o : Obj, HasTabs (w.alloc o) := fun o => HasTabs_below hT (hbe o)
  have HA := Lib.hid hA
  have HK := Lib.hid hK
  have HD := Lib.hid hD
  have hdz : (d : Int) ≤ 101 := by omega
  clear hn hme hml hsl hm hD ham hI hT hA hK
  rw [hk0] at HB ⊢
  clear hk0
  generalize n.okD d = R at *
  generalize n.sp = s1 at *
  generalize n.nm = s2 at *
  generalize n.tx = s3 at *
  generalize n.al = al at *
  generalize n.kids = kids at *
  generalize n.at' = at0 at *
  by_cases hd1 : d ≤ 100
  case neg =>
    have q1 : ¬ (d : Int) ≤ 100 := by omega
    have HT := Lib.hid (show R = false by rw [HD.out, decide_eq_false hd1]; rfl)
    clear hd hd1 cK
    go_enter Tryd.func36, Tryd.ntmps36
    go_wp2
    go_ret
    exact ⟨trN HT.out.symm, hbe _⟩
  have q1 : (d : Int) ≤ 100 := by omega
  replace cK := cK hd1
  replace HD := Lib.hid (show R = ((noneB s1 && (noneB s3 && isQB s2)) && (attrsOk [] al && okDs false kids (d + 1))) by rw [HD.out, decide_eq_true hd1]; rfl)
  clear hd hd1
  by_cases h1 : s1.size = 0
  case neg =>
    obtain ⟨v1, v2, v3, v4⟩ := str_some h1
    have HT := Lib.hid (show R = false by rw [HD.out, noneB_f h1]; rfl)
    clear h1
    go_enter Tryd.func36, Tryd.ntmps36
    go_wp2
    go_ret
    exact ⟨trN HT.out.symm, hbe _⟩
  obtain rfl := str_none h1
  by_cases h3 : s3.size = 0
  case neg =>
    obtain ⟨v1, v2, v3, v4⟩ := str_some h3
    have HT := Lib.hid (show R = false by rw [HD.out, noneB_f h3]; rfl)
    clear h3 h1
    go_enter Tryd.func36, Tryd.ntmps36
    go_wp2
    go_ret
    exact ⟨trN HT.out.symm, hbe _⟩
  obtain rfl := str_none h3
  clear h1 h3
  have hwd : IntKind.i64.wrap ((d : Int) + 1) = (d : Int) + 1 := wrap_small _ (by omega) (by omega)
  generalize isQB s2 = Q at *
  cases Q
  · have HT := Lib.hid (show R = false by rw [HD.out]; rfl)
    go_enter Tryd.func36, Tryd.ntmps36
    go_wp2_with fail
    refine (c1 _ (hTe _)).mono ?_
    rintro e w1 ⟨rfl, b1⟩
    have b2 := (hbe _).trans (b1.mono (by rw [hze]; omega))
    go_wp2
    go_ret
    exact ⟨trN HT.out.symm, b2⟩
  replace HD := Lib.hid (show R = (attrsOk [] al && okDs false kids (d + 1)) from HD.out)
  generalize attrsOk [] al = Y at *
  generalize okDs false kids (d + 1) = Z at *
  cases Y
  · have HT := Lib.hid (show R = false by rw [HD.out]; rfl)
    go_enter Tryd.func36, Tryd.ntmps36
    go_wp2_with fail
    refine (c1 _ (hTe _)).mono ?_
    rintro e w1 ⟨rfl, b1⟩
    have t1 := HasTabs_below (hTe _) b1
    have f3 : w1.cell? ⟨w.heap.size, 3, none⟩ = some (.slice pa _ ca) := (HB.out.more b1).cell 3
    have b2 := (hbe _).trans (b1.mono (by rw [hze]; omega))
    have hA1 := HA.out.below b2
    go_wp2_with fail
    refine (cA _ hA1 t1).mono ?_
    rintro e w2 ⟨rfl, b3⟩
    have b4 := b2.trans (b3.mono b2.size)
    go_wp2
    go_ret
    exact ⟨trN HT.out.symm, b4⟩
  have HT := Lib.hid (show R = Z from HD.out)
  cases Z
  all_goals
    go_enter Tryd.func36, Tryd.ntmps36
    go_wp2_with fail
    refine (c1 _ (hTe _)).mono ?_
    rintro e w1 ⟨rfl, b1⟩
    have t1 := HasTabs_below (hTe _) b1
    have PB := HB.out.more b1
    have f3 : w1.cell? ⟨w.heap.size, 3, none⟩ = some (.slice pa _ ca) := PB.cell 3
    have b2 := (hbe _).trans (b1.mono (by rw [hze]; omega))
    have hA1 := HA.out.below b2
    go_wp2_with fail
    refine (cA _ hA1 t1).mono ?_
    rintro e w2 ⟨rfl, b3⟩
    have t2 := HasTabs_below t1 b3
    have f4 : w2.cell? ⟨w.heap.size, 4, none⟩ = some (.slice pk _ ck) := (PB.more b3).cell 4
    have b4 := b2.trans (b3.mono b2.size)
    have hK1 := HK.out.below b4
    clear PB
    go_wp2_with fail
    refine (cK _ hK1 t2).mono ?_
    rintro e w3 ⟨rfl, b5⟩
    have b6 := b4.trans (b5.mono b4.size)
    go_wp2
    go_ret
    exact ⟨trN HT.out.symm, b6⟩
set_option maxRecDepth 100000 in
set_option maxHeartbeats 8000000 in
theorem xw_validNode : ∀ (f : Nat) (n : NodeD) (d : Nat), n.cnt ≤ f → n.mass ≤ 1000000 → d ≤ 101 → NodeAt n d
  | 0, n, _, hf, _, _ => absurd hf (by have := cnt_eq n; omega)
  | f + 1, n, d, hf, hm, hd => by
    intro v w hT hn
    have hI : d ≤ 100 → ∀ k ∈ n.kids, NodeAt k (d + 1) := fun h k hk => xw_validNode f k (d + 1) (by have := cnt_kid n k hk; omega) (by have := mass_kid n k hk; omega) (by omega)
    have cE : n.kind = 0 → ∀ wx, HasTabs wx → NodeIs wx n v → _ := fun h0 wx ht h => xw_validElement n d hd hI v wx h0 hm ht h
    have cD : ∀ wx, HasTabs wx → NodeIs wx n v → _ := fun wx ht h => xw_validData n v wx hm ht h
    have hbe : ∀ o : Obj, Below w.heap.size w (w.alloc o) := fun o => (Below.refl _ _).alloc (Nat.le_refl _) _
    have hTe : ∀ o : Obj, HasTabs (w.alloc o) := fun o => HasTabs_below hT (hbe o)
    have hne : ∀ o : Obj, NodeIs (w.alloc o) n v := fun o => hn.below (hbe o)
    have hze : ∀ o : Obj, (w.alloc o).heap.size = w.heap.size + 1 := fun o => by simp
    have hD := okD_eq n d
    obtain ⟨pa, ca, pk, ck, rfl, -, -⟩ := (node_is w n v).1 hn
    clear hn hI hf hm hT
    by_cases h1 : n.kind = 1
    · rw [if_pos h1] at hD
      rw [h1] at cD hne ⊢
      rw [hD]
      clear cE hD h1
      go_enter Tryd.func27, Tryd.ntmps27
      go_wp2_with fail
      refine (cD _ (hTe _) (hne _)).mono ?_
      rintro e w1 ⟨rfl, b1⟩
      have b2 := (hbe _).trans (b1.mono (by rw [hze]; omega))
      go_wp2
      go_ret
      exact ⟨rfl, b2⟩
    by_cases h0 : n.kind = 0
    · replace cE := cE h0
      rw [h0] at cE hne ⊢
      clear cD hD h1 h0
      go_enter Tryd.func27, Tryd.ntmps27
      go_wp2_with fail
      refine (cE _ (hTe _) (hne _)).mono ?_
      rintro e w1 ⟨rfl, b1⟩
      have b2 := (hbe _).trans (b1.mono (by rw [hze]; omega))
      go_wp2
      go_ret
      exact ⟨rfl, b2⟩
    rw [if_neg h1, if_neg h0] at hD
    rw [hD]
    have q1 : (n.kind == 1) = false := by simpa using h1
    have q3 : (n.kind == 0) = false := by simpa using h0
    clear cE cD hD
    go_enter Tryd.func27, Tryd.ntmps27
    go_wp2
    go_ret
    exact ⟨rfl, hbe _⟩
set_option maxRecDepth 100000 in
set_option maxHeartbeats 8000000 in
theorem xw_Check (n : NodeD) (v : Value) (w : World) (hm : n.mass ≤ 1000000) (hT : HasTabs w) (hn : NodeIs w n v) : Calls Tryd.prog 11 #[v] w fun e w' => e = .returned (.int .i64 (errP n)) ∧ Below w.heap.size w w' := by
  have hE : errP n = if (decide (n.kind = 0) && n.okD 1) = true then 0 else 22 := by unfold errP; rw [good_okD]
  have cN : ∀ wx, HasTabs wx → NodeIs wx n v → _ := fun wx ht h => xw_validNode n.cnt n 1 (Nat.le_refl _) hm (by decide) v wx ht h
  have hbe : ∀ o : Obj, Below w.heap.size w (w.alloc o) := fun o => (Below.refl _ _).alloc (Nat.le_refl _) _
  have hTe : ∀ o : Obj, HasTabs (w.alloc o) := fun o => HasTabs_below hT (hbe o)
  have hne : ∀ o : Obj, NodeIs (w.alloc o) n v := fun o => hn.below (hbe o)
  have hze : ∀ o : Obj, (w.alloc o).heap.size = w.heap.size + 1 := fun o => by simp
  obtain ⟨pa, ca, pk, ck, rfl, -, -⟩ := (node_is w n v).1 hn
  rw [show ((1 : Nat) : Int) = 1 from rfl] at cN
  clear hn hm hT
  by_cases h0 : n.kind = 0
  case neg =>
    rw [hE, decide_eq_false h0]
    have q2 : (n.kind != 0) = true := by simpa using h0
    have q3 : (n.kind == 0) = false := by simpa using h0
    clear hE cN
    go_enter Tryd.func11, Tryd.ntmps11
    go_wp2
    go_ret
    exact ⟨rfl, hbe _⟩
  rw [hE, decide_eq_true h0]
  rw [h0] at cN hne ⊢
  clear hE h0
  generalize n.okD 1 = V at *
  cases V
  all_goals
    go_enter Tryd.func11, Tryd.ntmps11
    go_wp2_with fail
    refine (cN _ (hTe _) (hne _)).mono ?_
    rintro e w1 ⟨rfl, b1⟩
    have b2 := (hbe _).trans (b1.mono (by rw [hze]; omega))
    go_wp2
    go_ret
    exact ⟨rfl, b2⟩
end Go.Proofs.YtppmoeidgefkpaaDoor
end
