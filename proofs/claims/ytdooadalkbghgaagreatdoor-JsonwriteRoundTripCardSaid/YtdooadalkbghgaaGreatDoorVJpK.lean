/- Packed from the texts JpK. -/
import Derived.Test.YtdooadalkbghgaaGreatDoorVkO
section
namespace Go.Proofs.YtdooadalkbghgaaGreatDoor
open Go.RowKit Go.Maps
theorem jinfo_member : (Tryz.prog.info? 38).map (fun i => (i.zero, i.size, i.bytes)) = some (some (.agg #[.string ⟨#[]⟩, .int .i64 0, .bool false, .int .i64 0, .string ⟨#[]⟩, .slice none 0 0, .slice none 0 0, .int .i64 0, .int .i64 0]), 9, 120) := by kernel_rfl
set_option maxRecDepth 100000 in
set_option maxHeartbeats 32000000 in
theorem jp_member (w0 : World) (b : Nat) (s : ByteArray) (m : Nat) (hV : JqV w0 b s m) (hs : s.size ≤ 1000000) (wS : World) (d : Nat) (hT : TabV w0) (h1 : b < wS.heap.size) (h0 : w0.heap.size ≤ b) (hd : d ≤ 100)
    (st : List MemD) (i : Nat) (w : World) (hi : i ≤ s.size) (him : s.size - i ≤ m) (hE : MeE wS b d st i w) (hP : Psr w b s i) (hw : Below w0.heap.size w0 w) :
    Calls Tryz.prog 78 #[.pointer (some ⟨wS.heap.size, 0, none⟩), .pointer (some ⟨wS.heap.size + 4, 0, none⟩), .pointer (some ⟨wS.heap.size + 1, 0, none⟩), .pointer (some ⟨wS.heap.size + 2, 0, none⟩)] w fun e w' => OutL (MeE wS b d) w0 b s e w' (stepM s.data.toList d st i) := by
  obtain ⟨i0, hi0, hi1, hi3, hi4⟩ := info_parts jinfo_member
  obtain ⟨v', xs, hv, ho, hr⟩ := hE.row
  obtain ⟨A0, C0, rfl⟩ := jrow_val ho
  have hsl : s.data.toList.length = s.size := by simp
  have hstl : st.length ≤ 1000000 := by have := hE.len; omega
  have hdw : IntKind.i64.wrap ((d : Int) + 1) = ((d + 1 : Nat) : Int) := wrap_small _ (by omega) (by omega)
  have hown : ∀ k, (Value.slice A0 st.length C0).ownBlock = some k → wS.heap.size + 5 ≤ k ∧ k < w.heap.size := fun k e => ho.lt k e
  have hown : ∀ k, (Value.slice A0 st.length C0).ownBlock = some k → ¬ (k < wS.heap.size + 5 ∨ w.heap.size ≤ k) := fun k e => by have := hown k e; omega
  have hxl := ho.1
  have hn1 : (st.length : Int) < (st.length : Int) + 1 := by omega
  have hn2 : st.length < st.length + 1 := by omega
  have hwz := hE.size
  have hsp := spP_le s.data.toList i (by rw [hsl]; exact hi)
  rw [hsl] at hsp
  have cp : w.cell? ⟨wS.heap.size, 0, none⟩ = some (.pointer (some ⟨b, 0, none⟩)) := hE.ptr.cell 0
  have hstep := stepM.eq_1 s.data.toList d st i
  rw [hstep]
  clear hstep
  have HE := Lib.hid hE
  have HV := Lib.hid hv
  have HO := Lib.hid ho
  have HR := Lib.hid hr
  have HW := Lib.hid hw
  have hw0 := hw.size
  by_cases hue : s.size ≤ spP s.data.toList i
  · have cN := jp_next_eof b s i w hP hi hs (by omega)
    have hK : kA s.data.toList (spP s.data.toList i) (st.map MemD.key) = .err s.size 8 := by rw [kA_eq _ _ _ (by omega), if_pos (by omega), hsl]
    rw [hK]
    clear hE hv ho hr hP hw hV hK
    go_enter Tryz.func78, Tryz.ntmps78
    go_wp2_with fail
    refine cN.mono ?_
    rintro e w1 ⟨rfl, K1⟩
    go_wp2
    exact ⟨rfl, rfl, pb_below HW.out K1 h0⟩
  have cN := jp_next b s i w hP hi hs (by omega)
  obtain ⟨u, hu⟩ : ∃ u, spP s.data.toList i = u := ⟨_, rfl⟩
  rw [hu] at cN hsp hue ⊢
  generalize ((s.data.toList.getD u 0).toNat : Int) = ch at cN
  clear hu
  obtain ⟨⟨K, t, x⟩, hPp⟩ : ∃ P, parP s.data.toList (u : Int) = P := ⟨_, rfl⟩
  by_cases hx : x = 0
  case neg =>
    rw [kA_bad (by rw [hsl]; omega) hPp hx]
    clear hE hv ho hr hP hw hV
    go_enter Tryz.func78, Tryz.ntmps78
    go_wp2_with fail
    refine cN.mono ?_
    rintro e w1 ⟨rfl, P1, K1⟩
    have hz1 := K1.size
    have c1p : w1.cell? ⟨wS.heap.size, 0, none⟩ = some (.pointer (some ⟨b, 0, none⟩)) := (Pj.blk K1 HE.out.ptr (by omega)).cell 0
    have c1a := P1.c1
    have G2 : MeG w0 wS w b d w1.heap.size (.slice A0 st.length C0) st.length xs #[.string ⟨#[]⟩, .int .i64 0, .bool false, .int .i64 0, .string ⟨#[]⟩, .slice none 0 0, .slice none 0 0, .int .i64 0, .int .i64 (u : Int)] (w1.alloc (.cells #[.string ⟨#[]⟩, .int .i64 0, .bool false, .int .i64 0, .string ⟨#[]⟩, .slice none 0 0, .slice none 0 0, .int .i64 0, .int .i64 (u : Int)] 38)) := HE.out.start HW.out K1 h1 h0 HV.out HO.out _
    have P2 : Psr (w1.alloc (.cells #[.string ⟨#[]⟩, .int .i64 0, .bool false, .int .i64 0, .string ⟨#[]⟩, .slice none 0 0, .slice none 0 0, .int .i64 0, .int .i64 (u : Int)] 38)) b s u := P1.more ((Below.refl _ _).alloc (Nat.le_refl _) _)
    have S2 : JkSet (w1.alloc (.cells #[.string ⟨#[]⟩, .int .i64 0, .bool false, .int .i64 0, .string ⟨#[]⟩, .slice none 0 0, .slice none 0 0, .int .i64 0, .int .i64 (u : Int)] 38)) (wS.heap.size + 3) (st.map MemD.key).reverse := (HE.out.set.same (K1.block _ HE.out.set.lt (by omega))).same (heap_alloc_old w1 _ (by have := HE.out.set.lt; omega))
    have T2 : TabJ (w1.alloc (.cells #[.string ⟨#[]⟩, .int .i64 0, .bool false, .int .i64 0, .string ⟨#[]⟩, .slice none 0 0, .slice none 0 0, .int .i64 0, .int .i64 (u : Int)] 38)) := TabJ_below hT.1 G2.low
    have c2p : (w1.alloc (.cells #[.string ⟨#[]⟩, .int .i64 0, .bool false, .int .i64 0, .string ⟨#[]⟩, .slice none 0 0, .slice none 0 0, .int .i64 0, .int .i64 (u : Int)] 38)).cell? ⟨wS.heap.size, 0, none⟩ = some (.pointer (some ⟨b, 0, none⟩)) := G2.ptr.cell 0
    have HK1 := Lib.hid K1
    clear K1 P1
    have cS := jp_str_bad b s u K t x (w1.alloc (.cells #[.string ⟨#[]⟩, .int .i64 0, .bool false, .int .i64 0, .string ⟨#[]⟩, .slice none 0 0, .slice none 0 0, .int .i64 0, .int .i64 (u : Int)] 38)) P2 hs T2 hPp hx
    have HL := Lib.hid G2.low
    clear G2 P2 S2 T2
    go_wp2_with fail
    refine cS.mono ?_
    rintro e w3 ⟨rfl, K3⟩
    go_wp2
    exact ⟨rfl, rfl, pb_below HL.out K3 h0⟩
  subst hx
  obtain ⟨n, rfl, hun, hnl, hkA⟩ := kA_good (keys := st.map MemD.key) (by rw [hsl]; omega) hPp
  obtain ⟨t, rfl⟩ : ∃ t, t = n := ⟨_, rfl⟩
  rw [hsl] at hnl hkA
  have hts : t ≤ s.size := hnl
  obtain ⟨KB, hKB⟩ : ∃ KB, ofBytes K = KB := ⟨_, rfl⟩
  have hKBz : KB.size ≤ maxLen := by
    have h4 := parP_len s.data.toList (u : Int)
    rw [hPp, hsl] at h4
    have h5 : KB.size = K.length := by
      rw [← hKB]
      have : (ofBytes K).data.toList.length = (ofBytes K).size := by simp
      rw [ofBytes_list] at this
      omega
    simp only at h4
    unfold maxLen
    omega
  rw [hKB] at hkA
  have hkey := Go.WideMaps.keyOf_string_mk (P := Tryz.prog) Tryz.underlying9 (s := KB) hKBz
  have hst2 := spP_le s.data.toList t (by rw [hsl]; exact hts)
  rw [hsl] at hst2
  rcases hany : (st.map MemD.key).any (fun x => decide (x = KB)) with _ | _
  case true =>
    rw [hkA, if_pos hany]
    have cF : ∀ wx, _ := fun wx => jp_fail (u : Int) 10 wx
    clear hE hv ho hr hP hw hV hkA
    go_enter Tryz.func78, Tryz.ntmps78
    go_wp2_with fail
    refine cN.mono ?_
    rintro e w1 ⟨rfl, P1, K1⟩
    have hz1 := K1.size
    have c1p : w1.cell? ⟨wS.heap.size, 0, none⟩ = some (.pointer (some ⟨b, 0, none⟩)) := (Pj.blk K1 HE.out.ptr (by omega)).cell 0
    have c1a := P1.c1
    have G2 : MeG w0 wS w b d w1.heap.size (.slice A0 st.length C0) st.length xs #[.string ⟨#[]⟩, .int .i64 0, .bool false, .int .i64 0, .string ⟨#[]⟩, .slice none 0 0, .slice none 0 0, .int .i64 0, .int .i64 (u : Int)] (w1.alloc (.cells #[.string ⟨#[]⟩, .int .i64 0, .bool false, .int .i64 0, .string ⟨#[]⟩, .slice none 0 0, .slice none 0 0, .int .i64 0, .int .i64 (u : Int)] 38)) := HE.out.start HW.out K1 h1 h0 HV.out HO.out _
    have P2 : Psr (w1.alloc (.cells #[.string ⟨#[]⟩, .int .i64 0, .bool false, .int .i64 0, .string ⟨#[]⟩, .slice none 0 0, .slice none 0 0, .int .i64 0, .int .i64 (u : Int)] 38)) b s u := P1.more ((Below.refl _ _).alloc (Nat.le_refl _) _)
    have S2 : JkSet (w1.alloc (.cells #[.string ⟨#[]⟩, .int .i64 0, .bool false, .int .i64 0, .string ⟨#[]⟩, .slice none 0 0, .slice none 0 0, .int .i64 0, .int .i64 (u : Int)] 38)) (wS.heap.size + 3) (st.map MemD.key).reverse := (HE.out.set.same (K1.block _ HE.out.set.lt (by omega))).same (heap_alloc_old w1 _ (by have := HE.out.set.lt; omega))
    have T2 : TabJ (w1.alloc (.cells #[.string ⟨#[]⟩, .int .i64 0, .bool false, .int .i64 0, .string ⟨#[]⟩, .slice none 0 0, .slice none 0 0, .int .i64 0, .int .i64 (u : Int)] 38)) := TabJ_below hT.1 G2.low
    have c2p : (w1.alloc (.cells #[.string ⟨#[]⟩, .int .i64 0, .bool false, .int .i64 0, .string ⟨#[]⟩, .slice none 0 0, .slice none 0 0, .int .i64 0, .int .i64 (u : Int)] 38)).cell? ⟨wS.heap.size, 0, none⟩ = some (.pointer (some ⟨b, 0, none⟩)) := G2.ptr.cell 0
    have HK1 := Lib.hid K1
    clear K1 P1
    have cS := jp_str_ok b s u K (t : Int) (w1.alloc (.cells #[.string ⟨#[]⟩, .int .i64 0, .bool false, .int .i64 0, .string ⟨#[]⟩, .slice none 0 0, .slice none 0 0, .int .i64 0, .int .i64 (u : Int)] 38)) P2 hs T2 hPp
    rw [hKB] at cS
    have HG2 := Lib.hid G2
    have HS2 := Lib.hid S2
    clear G2 P2 S2 T2
    go_wp2_with fail
    refine cS.mono ?_
    rintro e w3 ⟨rfl, P3, K3⟩
    have hz3 := K3.size
    rw [World.size_alloc] at hz3
    have G3 : MeG w0 wS w b d w1.heap.size (.slice A0 st.length C0) st.length xs #[.string ⟨#[]⟩, .int .i64 0, .bool false, .int .i64 0, .string ⟨#[]⟩, .slice none 0 0, .slice none 0 0, .int .i64 0, .int .i64 (u : Int)] w3 := HG2.out.more K3 h1 h0 (by omega)
    have e0 : w3.cell? ⟨w1.heap.size, 0, none⟩ = some (.string ⟨#[]⟩) := G3.mem.cell 0
    have f0 := G3.mem.fr 0
    obtain ⟨W4, hW4⟩ : ∃ W4, W4 = w3.setCell ⟨w1.heap.size, 0, none⟩ (.string KB) := ⟨_, rfl⟩
    have G4 : MeG w0 wS w b d w1.heap.size (.slice A0 st.length C0) st.length xs #[.string KB, .int .i64 0, .bool false, .int .i64 0, .string ⟨#[]⟩, .slice none 0 0, .slice none 0 0, .int .i64 0, .int .i64 (u : Int)] W4 := by rw [hW4]; exact G3.set (by omega) (by omega) (by omega) (fun e => hown _ e (by omega)) 0 (.string KB)
    have P4 : Psr W4 b s (t : Int) := by rw [hW4]; exact Bj.own P3 (by show w1.heap.size ≠ b; omega) _
    have S4 : JkSet W4 (wS.heap.size + 3) (st.map MemD.key).reverse := by
      rw [hW4]
      exact ((HS2.out.same (K3.block _ HS2.out.lt (by omega)))).same (Below.heap_setCell _ _ _ _ (by show wS.heap.size + 3 ≠ w1.heap.size; omega))
    have hlk := S4.look KB hKBz
    rw [any_rev, hany] at hlk
    have c4f : W4.cell? ⟨wS.heap.size + 4, 0, none⟩ = some (.map (some (wS.heap.size + 3))) := G4.fnd.cell 0
    have c4k : W4.cell? ⟨w1.heap.size, 0, none⟩ = some (.string KB) := G4.mem.cell 0
    have c4a : W4.cell? ⟨w1.heap.size, 8, none⟩ = some (.int .i64 (u : Int)) := G4.mem.cell 8
    have HG4 := Lib.hid G4
    have HS4 := Lib.hid S4
    have HP4 := Lib.hid P4
    clear G3 G4 S4 P4 P3 K3
    rw [hW4] at hlk c4f c4k c4a
    go_wp2_with fail
    refine (cF _).mono ?_
    rintro e w5 ⟨rfl, rfl⟩
    go_wp2
    exact ⟨rfl, rfl, by rw [← hW4]; exact HG4.out.low⟩
  rw [if_neg (by rw [hany]; decide)] at hkA
  by_cases hce : s.size ≤ spP s.data.toList t
  · rw [hkA, if_pos hce]
    clear hE hv ho hr hP hw hV hkA
    go_enter Tryz.func78, Tryz.ntmps78
    go_wp2_with fail
    refine cN.mono ?_
    rintro e w1 ⟨rfl, P1, K1⟩
    have hz1 := K1.size
    have c1p : w1.cell? ⟨wS.heap.size, 0, none⟩ = some (.pointer (some ⟨b, 0, none⟩)) := (Pj.blk K1 HE.out.ptr (by omega)).cell 0
    have c1a := P1.c1
    have G2 : MeG w0 wS w b d w1.heap.size (.slice A0 st.length C0) st.length xs #[.string ⟨#[]⟩, .int .i64 0, .bool false, .int .i64 0, .string ⟨#[]⟩, .slice none 0 0, .slice none 0 0, .int .i64 0, .int .i64 (u : Int)] (w1.alloc (.cells #[.string ⟨#[]⟩, .int .i64 0, .bool false, .int .i64 0, .string ⟨#[]⟩, .slice none 0 0, .slice none 0 0, .int .i64 0, .int .i64 (u : Int)] 38)) := HE.out.start HW.out K1 h1 h0 HV.out HO.out _
    have P2 : Psr (w1.alloc (.cells #[.string ⟨#[]⟩, .int .i64 0, .bool false, .int .i64 0, .string ⟨#[]⟩, .slice none 0 0, .slice none 0 0, .int .i64 0, .int .i64 (u : Int)] 38)) b s u := P1.more ((Below.refl _ _).alloc (Nat.le_refl _) _)
    have S2 : JkSet (w1.alloc (.cells #[.string ⟨#[]⟩, .int .i64 0, .bool false, .int .i64 0, .string ⟨#[]⟩, .slice none 0 0, .slice none 0 0, .int .i64 0, .int .i64 (u : Int)] 38)) (wS.heap.size + 3) (st.map MemD.key).reverse := (HE.out.set.same (K1.block _ HE.out.set.lt (by omega))).same (heap_alloc_old w1 _ (by have := HE.out.set.lt; omega))
    have T2 : TabJ (w1.alloc (.cells #[.string ⟨#[]⟩, .int .i64 0, .bool false, .int .i64 0, .string ⟨#[]⟩, .slice none 0 0, .slice none 0 0, .int .i64 0, .int .i64 (u : Int)] 38)) := TabJ_below hT.1 G2.low
    have c2p : (w1.alloc (.cells #[.string ⟨#[]⟩, .int .i64 0, .bool false, .int .i64 0, .string ⟨#[]⟩, .slice none 0 0, .slice none 0 0, .int .i64 0, .int .i64 (u : Int)] 38)).cell? ⟨wS.heap.size, 0, none⟩ = some (.pointer (some ⟨b, 0, none⟩)) := G2.ptr.cell 0
    have HK1 := Lib.hid K1
    clear K1 P1
    have cS := jp_str_ok b s u K (t : Int) (w1.alloc (.cells #[.string ⟨#[]⟩, .int .i64 0, .bool false, .int .i64 0, .string ⟨#[]⟩, .slice none 0 0, .slice none 0 0, .int .i64 0, .int .i64 (u : Int)] 38)) P2 hs T2 hPp
    rw [hKB] at cS
    have HG2 := Lib.hid G2
    have HS2 := Lib.hid S2
    clear G2 P2 S2 T2
    go_wp2_with fail
    refine cS.mono ?_
    rintro e w3 ⟨rfl, P3, K3⟩
    have hz3 := K3.size
    rw [World.size_alloc] at hz3
    have G3 : MeG w0 wS w b d w1.heap.size (.slice A0 st.length C0) st.length xs #[.string ⟨#[]⟩, .int .i64 0, .bool false, .int .i64 0, .string ⟨#[]⟩, .slice none 0 0, .slice none 0 0, .int .i64 0, .int .i64 (u : Int)] w3 := HG2.out.more K3 h1 h0 (by omega)
    have e0 : w3.cell? ⟨w1.heap.size, 0, none⟩ = some (.string ⟨#[]⟩) := G3.mem.cell 0
    have f0 := G3.mem.fr 0
    obtain ⟨W4, hW4⟩ : ∃ W4, W4 = w3.setCell ⟨w1.heap.size, 0, none⟩ (.string KB) := ⟨_, rfl⟩
    have G4 : MeG w0 wS w b d w1.heap.size (.slice A0 st.length C0) st.length xs #[.string KB, .int .i64 0, .bool false, .int .i64 0, .string ⟨#[]⟩, .slice none 0 0, .slice none 0 0, .int .i64 0, .int .i64 (u : Int)] W4 := by rw [hW4]; exact G3.set (by omega) (by omega) (by omega) (fun e => hown _ e (by omega)) 0 (.string KB)
    have P4 : Psr W4 b s (t : Int) := by rw [hW4]; exact Bj.own P3 (by show w1.heap.size ≠ b; omega) _
    have S4 : JkSet W4 (wS.heap.size + 3) (st.map MemD.key).reverse := by
      rw [hW4]
      exact ((HS2.out.same (K3.block _ HS2.out.lt (by omega)))).same (Below.heap_setCell _ _ _ _ (by show wS.heap.size + 3 ≠ w1.heap.size; omega))
    have hlk := S4.look KB hKBz
    rw [any_rev, hany] at hlk
    have c4f : W4.cell? ⟨wS.heap.size + 4, 0, none⟩ = some (.map (some (wS.heap.size + 3))) := G4.fnd.cell 0
    have c4k : W4.cell? ⟨w1.heap.size, 0, none⟩ = some (.string KB) := G4.mem.cell 0
    have c4a : W4.cell? ⟨w1.heap.size, 8, none⟩ = some (.int .i64 (u : Int)) := G4.mem.cell 8
    have HG4 := Lib.hid G4
    have HS4 := Lib.hid S4
    have HP4 := Lib.hid P4
    clear G3 G4 S4 P4 P3 K3
    rw [hW4] at hlk c4f c4k c4a
    have hsetO := HS4.out
    unfold JkSet at hsetO
    rw [hW4] at hsetO
    have hG4' := HG4.out
    rw [hW4] at hG4'
    have hP4' := HP4.out
    rw [hW4] at hP4'
    have HGX := Lib.hid hG4'
    have HPX := Lib.hid hP4'
    clear hG4' hP4'
    go_wp2_with (at_mapUpdate; refine wpList_mapUpdate_own _ rfl _ _ _ 100 rfl 9 4 jslaw Tryz.underlying100 (plainElem (H := Unit) Tryz.prog 4) (wS.heap.size + 3) (st.map MemD.key).reverse.length _ rfl hsetO (by unfold maxLen; rw [List.length_reverse, List.length_map]; omega) _ _ _ rfl rfl hkey _ [] (plainElem_bool Tryz.underlying4 true) ?_; intro w5 hmap5 hgr5; have c5p : w5.cell? ⟨wS.heap.size, 0, none⟩ = some (.pointer (some ⟨b, 0, none⟩)) := (HGX.out.grown hgr5 (by omega) (by omega)).ptr.cell 0)
    have G5 : MeG w0 wS w b d w1.heap.size (.slice A0 st.length C0) st.length xs #[.string KB, .int .i64 0, .bool false, .int .i64 0, .string ⟨#[]⟩, .slice none 0 0, .slice none 0 0, .int .i64 0, .int .i64 (u : Int)] w5 := HGX.out.grown hgr5 (by omega) (by omega)
    have S5 : JkSet w5 (wS.heap.size + 3) (KB :: (st.map MemD.key).reverse) := hmap5
    have P5 : Psr w5 b s (t : Int) := (hgr5.block b (by have := HPX.out.lt; exact this) (fun e => by injection e with e; omega)).trans HPX.out
    have hz5 : w3.heap.size ≤ w5.heap.size := by
      have := hgr5.size
      simp only [World.setCell, Array.size_modify] at this
      exact this
    have HG5 := Lib.hid G5
    have HS5 := Lib.hid S5
    clear hmap5 hgr5 hsetO G5 S5 HGX HPX hlk c4f c4k c4a
    have cQ := jp_require_eof b s t 58 w5 P5 hts hs (by omega)
    clear P5
    go_wp2_with fail
    refine cQ.mono ?_
    rintro e w6 ⟨rfl, K6⟩
    go_wp2
    exact ⟨rfl, rfl, pb_below HG5.out.low K6 h0⟩
  rw [if_neg hce] at hkA
  by_cases hc58 : s.data.toList.getD (spP s.data.toList t) 0 = 58
  case neg =>
    rw [hkA, if_pos hc58]
    have hno : ((s.data.toList.getD (spP s.data.toList t) 0).toNat : Int) ≠ 58 := fun e => hc58 (UInt8.toNat_inj.1 (by rw [show (58 : UInt8).toNat = 58 from rfl]; omega))
    clear hE hv ho hr hP hw hV hkA
    go_enter Tryz.func78, Tryz.ntmps78
    go_wp2_with fail
    refine cN.mono ?_
    rintro e w1 ⟨rfl, P1, K1⟩
    have hz1 := K1.size
    have c1p : w1.cell? ⟨wS.heap.size, 0, none⟩ = some (.pointer (some ⟨b, 0, none⟩)) := (Pj.blk K1 HE.out.ptr (by omega)).cell 0
    have c1a := P1.c1
    have G2 : MeG w0 wS w b d w1.heap.size (.slice A0 st.length C0) st.length xs #[.string ⟨#[]⟩, .int .i64 0, .bool false, .int .i64 0, .string ⟨#[]⟩, .slice none 0 0, .slice none 0 0, .int .i64 0, .int .i64 (u : Int)] (w1.alloc (.cells #[.string ⟨#[]⟩, .int .i64 0, .bool false, .int .i64 0, .string ⟨#[]⟩, .slice none 0 0, .slice none 0 0, .int .i64 0, .int .i64 (u : Int)] 38)) := HE.out.start HW.out K1 h1 h0 HV.out HO.out _
    have P2 : Psr (w1.alloc (.cells #[.string ⟨#[]⟩, .int .i64 0, .bool false, .int .i64 0, .string ⟨#[]⟩, .slice none 0 0, .slice none 0 0, .int .i64 0, .int .i64 (u : Int)] 38)) b s u := P1.more ((Below.refl _ _).alloc (Nat.le_refl _) _)
    have S2 : JkSet (w1.alloc (.cells #[.string ⟨#[]⟩, .int .i64 0, .bool false, .int .i64 0, .string ⟨#[]⟩, .slice none 0 0, .slice none 0 0, .int .i64 0, .int .i64 (u : Int)] 38)) (wS.heap.size + 3) (st.map MemD.key).reverse := (HE.out.set.same (K1.block _ HE.out.set.lt (by omega))).same (heap_alloc_old w1 _ (by have := HE.out.set.lt; omega))
    have T2 : TabJ (w1.alloc (.cells #[.string ⟨#[]⟩, .int .i64 0, .bool false, .int .i64 0, .string ⟨#[]⟩, .slice none 0 0, .slice none 0 0, .int .i64 0, .int .i64 (u : Int)] 38)) := TabJ_below hT.1 G2.low
    have c2p : (w1.alloc (.cells #[.string ⟨#[]⟩, .int .i64 0, .bool false, .int .i64 0, .string ⟨#[]⟩, .slice none 0 0, .slice none 0 0, .int .i64 0, .int .i64 (u : Int)] 38)).cell? ⟨wS.heap.size, 0, none⟩ = some (.pointer (some ⟨b, 0, none⟩)) := G2.ptr.cell 0
    have HK1 := Lib.hid K1
    clear K1 P1
    have cS := jp_str_ok b s u K (t : Int) (w1.alloc (.cells #[.string ⟨#[]⟩, .int .i64 0, .bool false, .int .i64 0, .string ⟨#[]⟩, .slice none 0 0, .slice none 0 0, .int .i64 0, .int .i64 (u : Int)] 38)) P2 hs T2 hPp
    rw [hKB] at cS
    have HG2 := Lib.hid G2
    have HS2 := Lib.hid S2
    clear G2 P2 S2 T2
    go_wp2_with fail
    refine cS.mono ?_
    rintro e w3 ⟨rfl, P3, K3⟩
    have hz3 := K3.size
    rw [World.size_alloc] at hz3
    have G3 : MeG w0 wS w b d w1.heap.size (.slice A0 st.length C0) st.length xs #[.string ⟨#[]⟩, .int .i64 0, .bool false, .int .i64 0, .string ⟨#[]⟩, .slice none 0 0, .slice none 0 0, .int .i64 0, .int .i64 (u : Int)] w3 := HG2.out.more K3 h1 h0 (by omega)
    have e0 : w3.cell? ⟨w1.heap.size, 0, none⟩ = some (.string ⟨#[]⟩) := G3.mem.cell 0
    have f0 := G3.mem.fr 0
    obtain ⟨W4, hW4⟩ : ∃ W4, W4 = w3.setCell ⟨w1.heap.size, 0, none⟩ (.string KB) := ⟨_, rfl⟩
    have G4 : MeG w0 wS w b d w1.heap.size (.slice A0 st.length C0) st.length xs #[.string KB, .int .i64 0, .bool false, .int .i64 0, .string ⟨#[]⟩, .slice none 0 0, .slice none 0 0, .int .i64 0, .int .i64 (u : Int)] W4 := by rw [hW4]; exact G3.set (by omega) (by omega) (by omega) (fun e => hown _ e (by omega)) 0 (.string KB)
    have P4 : Psr W4 b s (t : Int) := by rw [hW4]; exact Bj.own P3 (by show w1.heap.size ≠ b; omega) _
    have S4 : JkSet W4 (wS.heap.size + 3) (st.map MemD.key).reverse := by
      rw [hW4]
      exact ((HS2.out.same (K3.block _ HS2.out.lt (by omega)))).same (Below.heap_setCell _ _ _ _ (by show wS.heap.size + 3 ≠ w1.heap.size; omega))
    have hlk := S4.look KB hKBz
    rw [any_rev, hany] at hlk
    have c4f : W4.cell? ⟨wS.heap.size + 4, 0, none⟩ = some (.map (some (wS.heap.size + 3))) := G4.fnd.cell 0
    have c4k : W4.cell? ⟨w1.heap.size, 0, none⟩ = some (.string KB) := G4.mem.cell 0
    have c4a : W4.cell? ⟨w1.heap.size, 8, none⟩ = some (.int .i64 (u : Int)) := G4.mem.cell 8
    have HG4 := Lib.hid G4
    have HS4 := Lib.hid S4
    have HP4 := Lib.hid P4
    clear G3 G4 S4 P4 P3 K3
    rw [hW4] at hlk c4f c4k c4a
    have hsetO := HS4.out
    unfold JkSet at hsetO
    rw [hW4] at hsetO
    have hG4' := HG4.out
    rw [hW4] at hG4'
    have hP4' := HP4.out
    rw [hW4] at hP4'
    have HGX := Lib.hid hG4'
    have HPX := Lib.hid hP4'
    clear hG4' hP4'
    go_wp2_with (at_mapUpdate; refine wpList_mapUpdate_own _ rfl _ _ _ 100 rfl 9 4 jslaw Tryz.underlying100 (plainElem (H := Unit) Tryz.prog 4) (wS.heap.size + 3) (st.map MemD.key).reverse.length _ rfl hsetO (by unfold maxLen; rw [List.length_reverse, List.length_map]; omega) _ _ _ rfl rfl hkey _ [] (plainElem_bool Tryz.underlying4 true) ?_; intro w5 hmap5 hgr5; have c5p : w5.cell? ⟨wS.heap.size, 0, none⟩ = some (.pointer (some ⟨b, 0, none⟩)) := (HGX.out.grown hgr5 (by omega) (by omega)).ptr.cell 0)
    have G5 : MeG w0 wS w b d w1.heap.size (.slice A0 st.length C0) st.length xs #[.string KB, .int .i64 0, .bool false, .int .i64 0, .string ⟨#[]⟩, .slice none 0 0, .slice none 0 0, .int .i64 0, .int .i64 (u : Int)] w5 := HGX.out.grown hgr5 (by omega) (by omega)
    have S5 : JkSet w5 (wS.heap.size + 3) (KB :: (st.map MemD.key).reverse) := hmap5
    have P5 : Psr w5 b s (t : Int) := (hgr5.block b (by have := HPX.out.lt; exact this) (fun e => by injection e with e; omega)).trans HPX.out
    have hz5 : w3.heap.size ≤ w5.heap.size := by
      have := hgr5.size
      simp only [World.setCell, Array.size_modify] at this
      exact this
    have HG5 := Lib.hid G5
    have HS5 := Lib.hid S5
    clear hmap5 hgr5 hsetO G5 S5 HGX HPX hlk c4f c4k c4a
    have cQ := jp_require_no b s t 58 w5 P5 hts hs (by omega) hno
    clear P5
    go_wp2_with fail
    refine cQ.mono ?_
    rintro e w6 ⟨rfl, K6⟩
    go_wp2
    exact ⟨rfl, rfl, pb_below HG5.out.low K6 h0⟩
  rw [if_neg (fun e => e hc58)] at hkA
  have hyes : ((s.data.toList.getD (spP s.data.toList t) 0).toNat : Int) = 58 := by rw [hc58]; rfl
  have hend : ∀ {v : ValD} {j : Nat}, vA s.data.toList (spP s.data.toList t + 1) (d + 1) = .ok v j → spP s.data.toList t + 1 < j ∧ j ≤ s.size := fun {v j} e => by have := vA_end (by omega) e; omega
  have cV : ∀ wx, Psr wx b s ((spP s.data.toList t + 1 : Nat) : Int) → Below w0.heap.size w0 wx → Calls Tryz.prog 40 #[.pointer (some ⟨b, 0, none⟩), .int .i64 ((d + 1 : Nat) : Int)] wx fun e w' => OutV w0 wx b s e w' (vA s.data.toList (spP s.data.toList t + 1) (d + 1)) := fun wx h1 h2 => hV (spP s.data.toList t + 1) (d + 1) wx (by omega) (by omega) (by omega) h1 h2
  rw [hkA]
  dsimp only
  cases hvA : vA s.data.toList (spP s.data.toList t + 1) (d + 1) with
  | err a x =>
    clear hE hv ho hr hP hw hV hkA hend
    go_enter Tryz.func78, Tryz.ntmps78
    go_wp2_with fail
    refine cN.mono ?_
    rintro e w1 ⟨rfl, P1, K1⟩
    have hz1 := K1.size
    have c1p : w1.cell? ⟨wS.heap.size, 0, none⟩ = some (.pointer (some ⟨b, 0, none⟩)) := (Pj.blk K1 HE.out.ptr (by omega)).cell 0
    have c1a := P1.c1
    have G2 : MeG w0 wS w b d w1.heap.size (.slice A0 st.length C0) st.length xs #[.string ⟨#[]⟩, .int .i64 0, .bool false, .int .i64 0, .string ⟨#[]⟩, .slice none 0 0, .slice none 0 0, .int .i64 0, .int .i64 (u : Int)] (w1.alloc (.cells #[.string ⟨#[]⟩, .int .i64 0, .bool false, .int .i64 0, .string ⟨#[]⟩, .slice none 0 0, .slice none 0 0, .int .i64 0, .int .i64 (u : Int)] 38)) := HE.out.start HW.out K1 h1 h0 HV.out HO.out _
    have P2 : Psr (w1.alloc (.cells #[.string ⟨#[]⟩, .int .i64 0, .bool false, .int .i64 0, .string ⟨#[]⟩, .slice none 0 0, .slice none 0 0, .int .i64 0, .int .i64 (u : Int)] 38)) b s u := P1.more ((Below.refl _ _).alloc (Nat.le_refl _) _)
    have S2 : JkSet (w1.alloc (.cells #[.string ⟨#[]⟩, .int .i64 0, .bool false, .int .i64 0, .string ⟨#[]⟩, .slice none 0 0, .slice none 0 0, .int .i64 0, .int .i64 (u : Int)] 38)) (wS.heap.size + 3) (st.map MemD.key).reverse := (HE.out.set.same (K1.block _ HE.out.set.lt (by omega))).same (heap_alloc_old w1 _ (by have := HE.out.set.lt; omega))
    have T2 : TabJ (w1.alloc (.cells #[.string ⟨#[]⟩, .int .i64 0, .bool false, .int .i64 0, .string ⟨#[]⟩, .slice none 0 0, .slice none 0 0, .int .i64 0, .int .i64 (u : Int)] 38)) := TabJ_below hT.1 G2.low
    have c2p : (w1.alloc (.cells #[.string ⟨#[]⟩, .int .i64 0, .bool false, .int .i64 0, .string ⟨#[]⟩, .slice none 0 0, .slice none 0 0, .int .i64 0, .int .i64 (u : Int)] 38)).cell? ⟨wS.heap.size, 0, none⟩ = some (.pointer (some ⟨b, 0, none⟩)) := G2.ptr.cell 0
    have HK1 := Lib.hid K1
    clear K1 P1
    have cS := jp_str_ok b s u K (t : Int) (w1.alloc (.cells #[.string ⟨#[]⟩, .int .i64 0, .bool false, .int .i64 0, .string ⟨#[]⟩, .slice none 0 0, .slice none 0 0, .int .i64 0, .int .i64 (u : Int)] 38)) P2 hs T2 hPp
    rw [hKB] at cS
    have HG2 := Lib.hid G2
    have HS2 := Lib.hid S2
    clear G2 P2 S2 T2
    go_wp2_with fail
    refine cS.mono ?_
    rintro e w3 ⟨rfl, P3, K3⟩
    have hz3 := K3.size
    rw [World.size_alloc] at hz3
    have G3 : MeG w0 wS w b d w1.heap.size (.slice A0 st.length C0) st.length xs #[.string ⟨#[]⟩, .int .i64 0, .bool false, .int .i64 0, .string ⟨#[]⟩, .slice none 0 0, .slice none 0 0, .int .i64 0, .int .i64 (u : Int)] w3 := HG2.out.more K3 h1 h0 (by omega)
    have e0 : w3.cell? ⟨w1.heap.size, 0, none⟩ = some (.string ⟨#[]⟩) := G3.mem.cell 0
    have f0 := G3.mem.fr 0
    obtain ⟨W4, hW4⟩ : ∃ W4, W4 = w3.setCell ⟨w1.heap.size, 0, none⟩ (.string KB) := ⟨_, rfl⟩
    have G4 : MeG w0 wS w b d w1.heap.size (.slice A0 st.length C0) st.length xs #[.string KB, .int .i64 0, .bool false, .int .i64 0, .string ⟨#[]⟩, .slice none 0 0, .slice none 0 0, .int .i64 0, .int .i64 (u : Int)] W4 := by rw [hW4]; exact G3.set (by omega) (by omega) (by omega) (fun e => hown _ e (by omega)) 0 (.string KB)
    have P4 : Psr W4 b s (t : Int) := by rw [hW4]; exact Bj.own P3 (by show w1.heap.size ≠ b; omega) _
    have S4 : JkSet W4 (wS.heap.size + 3) (st.map MemD.key).reverse := by
      rw [hW4]
      exact ((HS2.out.same (K3.block _ HS2.out.lt (by omega)))).same (Below.heap_setCell _ _ _ _ (by show wS.heap.size + 3 ≠ w1.heap.size; omega))
    have hlk := S4.look KB hKBz
    rw [any_rev, hany] at hlk
    have c4f : W4.cell? ⟨wS.heap.size + 4, 0, none⟩ = some (.map (some (wS.heap.size + 3))) := G4.fnd.cell 0
    have c4k : W4.cell? ⟨w1.heap.size, 0, none⟩ = some (.string KB) := G4.mem.cell 0
    have c4a : W4.cell? ⟨w1.heap.size, 8, none⟩ = some (.int .i64 (u : Int)) := G4.mem.cell 8
    have HG4 := Lib.hid G4
    have HS4 := Lib.hid S4
    have HP4 := Lib.hid P4
    clear G3 G4 S4 P4 P3 K3
    rw [hW4] at hlk c4f c4k c4a
    have hsetO := HS4.out
    unfold JkSet at hsetO
    rw [hW4] at hsetO
    have hG4' := HG4.out
    rw [hW4] at hG4'
    have hP4' := HP4.out
    rw [hW4] at hP4'
    have HGX := Lib.hid hG4'
    have HPX := Lib.hid hP4'
    clear hG4' hP4'
    go_wp2_with (at_mapUpdate; refine wpList_mapUpdate_own _ rfl _ _ _ 100 rfl 9 4 jslaw Tryz.underlying100 (plainElem (H := Unit) Tryz.prog 4) (wS.heap.size + 3) (st.map MemD.key).reverse.length _ rfl hsetO (by unfold maxLen; rw [List.length_reverse, List.length_map]; omega) _ _ _ rfl rfl hkey _ [] (plainElem_bool Tryz.underlying4 true) ?_; intro w5 hmap5 hgr5; have c5p : w5.cell? ⟨wS.heap.size, 0, none⟩ = some (.pointer (some ⟨b, 0, none⟩)) := (HGX.out.grown hgr5 (by omega) (by omega)).ptr.cell 0)
    have G5 : MeG w0 wS w b d w1.heap.size (.slice A0 st.length C0) st.length xs #[.string KB, .int .i64 0, .bool false, .int .i64 0, .string ⟨#[]⟩, .slice none 0 0, .slice none 0 0, .int .i64 0, .int .i64 (u : Int)] w5 := HGX.out.grown hgr5 (by omega) (by omega)
    have S5 : JkSet w5 (wS.heap.size + 3) (KB :: (st.map MemD.key).reverse) := hmap5
    have P5 : Psr w5 b s (t : Int) := (hgr5.block b (by have := HPX.out.lt; exact this) (fun e => by injection e with e; omega)).trans HPX.out
    have hz5 : w3.heap.size ≤ w5.heap.size := by
      have := hgr5.size
      simp only [World.setCell, Array.size_modify] at this
      exact this
    have HG5 := Lib.hid G5
    have HS5 := Lib.hid S5
    clear hmap5 hgr5 hsetO G5 S5 HGX HPX hlk c4f c4k c4a
    have cQ := jp_require_yes b s t 58 w5 P5 hts hs (by omega) hyes
    clear P5
    go_wp2_with fail
    refine cQ.mono ?_
    rintro e w6 ⟨rfl, P6, K6⟩
    have G6 : MeG w0 wS w b d w1.heap.size (.slice A0 st.length C0) st.length xs #[.string KB, .int .i64 0, .bool false, .int .i64 0, .string ⟨#[]⟩, .slice none 0 0, .slice none 0 0, .int .i64 0, .int .i64 (u : Int)] w6 := HG5.out.more K6 h1 h0 (by omega)
    have hz6 := K6.size
    have S6 : JkSet w6 (wS.heap.size + 3) (KB :: (st.map MemD.key).reverse) := HS5.out.same (K6.block _ HS5.out.lt (by omega))
    have c6p : w6.cell? ⟨wS.heap.size, 0, none⟩ = some (.pointer (some ⟨b, 0, none⟩)) := G6.ptr.cell 0
    have c6d : w6.cell? ⟨wS.heap.size + 1, 0, none⟩ = some (.int .i64 (d : Int)) := G6.dep.cell 0
    have cW := cV w6 P6 G6.low
    have HG6 := Lib.hid G6
    have HS6 := Lib.hid S6
    clear P6 K6 G6 S6
    rw [hvA] at cW
    simp only [OutV] at cW
    go_wp2_with fail
    refine cW.mono ?_
    rintro e w7 ⟨rfl, hB⟩
    go_wp2
    exact ⟨rfl, rfl, hB⟩
  | ok v j =>
    have hj := hend hvA
    have hij : i < j := by omega
    have hjs := hj.2
    rw [hKB]
    clear hE hv ho hr hP hw hV hkA hend
    go_enter Tryz.func78, Tryz.ntmps78
    go_wp2_with fail
    refine cN.mono ?_
    rintro e w1 ⟨rfl, P1, K1⟩
    have hz1 := K1.size
    have c1p : w1.cell? ⟨wS.heap.size, 0, none⟩ = some (.pointer (some ⟨b, 0, none⟩)) := (Pj.blk K1 HE.out.ptr (by omega)).cell 0
    have c1a := P1.c1
    have G2 : MeG w0 wS w b d w1.heap.size (.slice A0 st.length C0) st.length xs #[.string ⟨#[]⟩, .int .i64 0, .bool false, .int .i64 0, .string ⟨#[]⟩, .slice none 0 0, .slice none 0 0, .int .i64 0, .int .i64 (u : Int)] (w1.alloc (.cells #[.string ⟨#[]⟩, .int .i64 0, .bool false, .int .i64 0, .string ⟨#[]⟩, .slice none 0 0, .slice none 0 0, .int .i64 0, .int .i64 (u : Int)] 38)) := HE.out.start HW.out K1 h1 h0 HV.out HO.out _
    have P2 : Psr (w1.alloc (.cells #[.string ⟨#[]⟩, .int .i64 0, .bool false, .int .i64 0, .string ⟨#[]⟩, .slice none 0 0, .slice none 0 0, .int .i64 0, .int .i64 (u : Int)] 38)) b s u := P1.more ((Below.refl _ _).alloc (Nat.le_refl _) _)
    have S2 : JkSet (w1.alloc (.cells #[.string ⟨#[]⟩, .int .i64 0, .bool false, .int .i64 0, .string ⟨#[]⟩, .slice none 0 0, .slice none 0 0, .int .i64 0, .int .i64 (u : Int)] 38)) (wS.heap.size + 3) (st.map MemD.key).reverse := (HE.out.set.same (K1.block _ HE.out.set.lt (by omega))).same (heap_alloc_old w1 _ (by have := HE.out.set.lt; omega))
    have T2 : TabJ (w1.alloc (.cells #[.string ⟨#[]⟩, .int .i64 0, .bool false, .int .i64 0, .string ⟨#[]⟩, .slice none 0 0, .slice none 0 0, .int .i64 0, .int .i64 (u : Int)] 38)) := TabJ_below hT.1 G2.low
    have c2p : (w1.alloc (.cells #[.string ⟨#[]⟩, .int .i64 0, .bool false, .int .i64 0, .string ⟨#[]⟩, .slice none 0 0, .slice none 0 0, .int .i64 0, .int .i64 (u : Int)] 38)).cell? ⟨wS.heap.size, 0, none⟩ = some (.pointer (some ⟨b, 0, none⟩)) := G2.ptr.cell 0
    have HK1 := Lib.hid K1
    clear K1 P1
    have cS := jp_str_ok b s u K (t : Int) (w1.alloc (.cells #[.string ⟨#[]⟩, .int .i64 0, .bool false, .int .i64 0, .string ⟨#[]⟩, .slice none 0 0, .slice none 0 0, .int .i64 0, .int .i64 (u : Int)] 38)) P2 hs T2 hPp
    rw [hKB] at cS
    have HG2 := Lib.hid G2
    have HS2 := Lib.hid S2
    clear G2 P2 S2 T2
    go_wp2_with fail
    refine cS.mono ?_
    rintro e w3 ⟨rfl, P3, K3⟩
    have hz3 := K3.size
    rw [World.size_alloc] at hz3
    have G3 : MeG w0 wS w b d w1.heap.size (.slice A0 st.length C0) st.length xs #[.string ⟨#[]⟩, .int .i64 0, .bool false, .int .i64 0, .string ⟨#[]⟩, .slice none 0 0, .slice none 0 0, .int .i64 0, .int .i64 (u : Int)] w3 := HG2.out.more K3 h1 h0 (by omega)
    have e0 : w3.cell? ⟨w1.heap.size, 0, none⟩ = some (.string ⟨#[]⟩) := G3.mem.cell 0
    have f0 := G3.mem.fr 0
    obtain ⟨W4, hW4⟩ : ∃ W4, W4 = w3.setCell ⟨w1.heap.size, 0, none⟩ (.string KB) := ⟨_, rfl⟩
    have G4 : MeG w0 wS w b d w1.heap.size (.slice A0 st.length C0) st.length xs #[.string KB, .int .i64 0, .bool false, .int .i64 0, .string ⟨#[]⟩, .slice none 0 0, .slice none 0 0, .int .i64 0, .int .i64 (u : Int)] W4 := by rw [hW4]; exact G3.set (by omega) (by omega) (by omega) (fun e => hown _ e (by omega)) 0 (.string KB)
    have P4 : Psr W4 b s (t : Int) := by rw [hW4]; exact Bj.own P3 (by show w1.heap.size ≠ b; omega) _
    have S4 : JkSet W4 (wS.heap.size + 3) (st.map MemD.key).reverse := by
      rw [hW4]
      exact ((HS2.out.same (K3.block _ HS2.out.lt (by omega)))).same (Below.heap_setCell _ _ _ _ (by show wS.heap.size + 3 ≠ w1.heap.size; omega))
    have hlk := S4.look KB hKBz
    rw [any_rev, hany] at hlk
    have c4f : W4.cell? ⟨wS.heap.size + 4, 0, none⟩ = some (.map (some (wS.heap.size + 3))) := G4.fnd.cell 0
    have c4k : W4.cell? ⟨w1.heap.size, 0, none⟩ = some (.string KB) := G4.mem.cell 0
    have c4a : W4.cell? ⟨w1.heap.size, 8, none⟩ = some (.int .i64 (u : Int)) := G4.mem.cell 8
    have HG4 := Lib.hid G4
    have HS4 := Lib.hid S4
    have HP4 := Lib.hid P4
    clear G3 G4 S4 P4 P3 K3
    rw [hW4] at hlk c4f c4k c4a
    have hsetO := HS4.out
    unfold JkSet at hsetO
    rw [hW4] at hsetO
    have hG4' := HG4.out
    rw [hW4] at hG4'
    have hP4' := HP4.out
    rw [hW4] at hP4'
    have HGX := Lib.hid hG4'
    have HPX := Lib.hid hP4'
    clear hG4' hP4'
    go_wp2_with (at_mapUpdate; refine wpList_mapUpdate_own _ rfl _ _ _ 100 rfl 9 4 jslaw Tryz.underlying100 (plainElem (H := Unit) Tryz.prog 4) (wS.heap.size + 3) (st.map MemD.key).reverse.length _ rfl hsetO (by unfold maxLen; rw [List.length_reverse, List.length_map]; omega) _ _ _ rfl rfl hkey _ [] (plainElem_bool Tryz.underlying4 true) ?_; intro w5 hmap5 hgr5; have c5p : w5.cell? ⟨wS.heap.size, 0, none⟩ = some (.pointer (some ⟨b, 0, none⟩)) := (HGX.out.grown hgr5 (by omega) (by omega)).ptr.cell 0)
    have G5 : MeG w0 wS w b d w1.heap.size (.slice A0 st.length C0) st.length xs #[.string KB, .int .i64 0, .bool false, .int .i64 0, .string ⟨#[]⟩, .slice none 0 0, .slice none 0 0, .int .i64 0, .int .i64 (u : Int)] w5 := HGX.out.grown hgr5 (by omega) (by omega)
    have S5 : JkSet w5 (wS.heap.size + 3) (KB :: (st.map MemD.key).reverse) := hmap5
    have P5 : Psr w5 b s (t : Int) := (hgr5.block b (by have := HPX.out.lt; exact this) (fun e => by injection e with e; omega)).trans HPX.out
    have hz5 : w3.heap.size ≤ w5.heap.size := by
      have := hgr5.size
      simp only [World.setCell, Array.size_modify] at this
      exact this
    have HG5 := Lib.hid G5
    have HS5 := Lib.hid S5
    clear hmap5 hgr5 hsetO G5 S5 HGX HPX hlk c4f c4k c4a
    have cQ := jp_require_yes b s t 58 w5 P5 hts hs (by omega) hyes
    clear P5
    go_wp2_with fail
    refine cQ.mono ?_
    rintro e w6 ⟨rfl, P6, K6⟩
    have G6 : MeG w0 wS w b d w1.heap.size (.slice A0 st.length C0) st.length xs #[.string KB, .int .i64 0, .bool false, .int .i64 0, .string ⟨#[]⟩, .slice none 0 0, .slice none 0 0, .int .i64 0, .int .i64 (u : Int)] w6 := HG5.out.more K6 h1 h0 (by omega)
    have hz6 := K6.size
    have S6 : JkSet w6 (wS.heap.size + 3) (KB :: (st.map MemD.key).reverse) := HS5.out.same (K6.block _ HS5.out.lt (by omega))
    have c6p : w6.cell? ⟨wS.heap.size, 0, none⟩ = some (.pointer (some ⟨b, 0, none⟩)) := G6.ptr.cell 0
    have c6d : w6.cell? ⟨wS.heap.size + 1, 0, none⟩ = some (.int .i64 (d : Int)) := G6.dep.cell 0
    have cW := cV w6 P6 G6.low
    have HG6 := Lib.hid G6
    have HS6 := Lib.hid S6
    clear P6 K6 G6 S6
    rw [hvA] at cW
    simp only [OutV] at cW
    go_wp2_with fail
    refine cW.mono ?_
    rintro e w7 ⟨⟨x, rfl, hx⟩, P7, K7⟩
    obtain ⟨p1, c1, q1, d1, rfl, -, -⟩ := (val_is _ v x).1 hx
    have hz7 := K7.size
    have G7 : MeG w0 wS w b d w1.heap.size (.slice A0 st.length C0) st.length xs #[.string KB, .int .i64 0, .bool false, .int .i64 0, .string ⟨#[]⟩, .slice none 0 0, .slice none 0 0, .int .i64 0, .int .i64 (u : Int)] w7 := HG6.out.more K7 h1 h0 (by omega)
    have S7 : JkSet w7 (wS.heap.size + 3) (KB :: (st.map MemD.key).reverse) := HS6.out.same (K7.block _ HS6.out.lt (by omega))
    obtain ⟨⟨-, r1, r2, r3, r4, r5, r6, r7, -⟩, -, y1, y2, y3, y4, y5, y6, y7, -⟩ := G7.mem.nine
    obtain ⟨W8, hW8⟩ : ∃ W8, W8 = ((((((w7.setCell ⟨w1.heap.size, 1, none⟩ (.int .i64 v.kind)).setCell ⟨w1.heap.size, 2, none⟩ (.bool v.b)).setCell ⟨w1.heap.size, 3, none⟩ (.int .i64 v.n)).setCell ⟨w1.heap.size, 4, none⟩ (.string v.s)).setCell ⟨w1.heap.size, 5, none⟩ (.slice p1 v.items.length c1)).setCell ⟨w1.heap.size, 6, none⟩ (.slice q1 v.mems.length d1)).setCell ⟨w1.heap.size, 7, none⟩ (.int .i64 v.at') := ⟨_, rfl⟩
    have G8 : MeG w0 wS w b d w1.heap.size (.slice A0 st.length C0) st.length xs #[.string KB, .int .i64 v.kind, .bool v.b, .int .i64 v.n, .string v.s, .slice p1 v.items.length c1, .slice q1 v.mems.length d1, .int .i64 v.at', .int .i64 (u : Int)] W8 := by rw [hW8]; exact (((((((G7.set (by omega) (by omega) (by omega) (fun e => hown _ e (by omega)) 1 (.int .i64 v.kind)).set (by omega) (by omega) (by omega) (fun e => hown _ e (by omega)) 2 (.bool v.b)).set (by omega) (by omega) (by omega) (fun e => hown _ e (by omega)) 3 (.int .i64 v.n)).set (by omega) (by omega) (by omega) (fun e => hown _ e (by omega)) 4 (.string v.s)).set (by omega) (by omega) (by omega) (fun e => hown _ e (by omega)) 5 (.slice p1 v.items.length c1)).set (by omega) (by omega) (by omega) (fun e => hown _ e (by omega)) 6 (.slice q1 v.mems.length d1)).set (by omega) (by omega) (by omega) (fun e => hown _ e (by omega)) 7 (.int .i64 v.at'))
    have B78 : ∀ k, k ≠ w1.heap.size → W8.heap[k]? = w7.heap[k]? := fun k hk => by rw [hW8, Below.heap_setCell _ _ _ _ hk, Below.heap_setCell _ _ _ _ hk, Below.heap_setCell _ _ _ _ hk, Below.heap_setCell _ _ _ _ hk, Below.heap_setCell _ _ _ _ hk, Below.heap_setCell _ _ _ _ hk, Below.heap_setCell _ _ _ _ hk]
    have hz8 : W8.heap.size = w7.heap.size := by rw [hW8]; simp [World.setCell]
    have S8 : JkSet W8 (wS.heap.size + 3) (KB :: (st.map MemD.key).reverse) := S7.same (B78 _ (by omega))
    have P8 : Psr W8 b s j := (B78 b (by omega)).trans P7
    have X8 : ValIs (sans W8 (low w6.heap.size)) v (.agg #[.int .i64 v.kind, .bool v.b, .int .i64 v.n, .string v.s, .slice p1 v.items.length c1, .slice q1 v.mems.length d1, .int .i64 v.at']) := hx.go (fun k hk hn => ⟨hn, B78 k (by have := low_no hn; omega)⟩)
    have HG8 := Lib.hid G8
    have HS8 := Lib.hid S8
    have HP8 := Lib.hid P8
    have HX8 := Lib.hid X8
    have hS : W8.drew.cell? ⟨wS.heap.size + 2, 0, none⟩ = some (.slice A0 st.length C0) ∧ W8.drew.cell? ⟨w1.heap.size, 0, none⟩ = some (.string KB) ∧ W8.drew.cell? ⟨w1.heap.size, 1, none⟩ = some (.int .i64 v.kind) ∧ W8.drew.cell? ⟨w1.heap.size, 2, none⟩ = some (.bool v.b) ∧ W8.drew.cell? ⟨w1.heap.size, 3, none⟩ = some (.int .i64 v.n) ∧ W8.drew.cell? ⟨w1.heap.size, 4, none⟩ = some (.string v.s) ∧ W8.drew.cell? ⟨w1.heap.size, 5, none⟩ = some (.slice p1 v.items.length c1) ∧ W8.drew.cell? ⟨w1.heap.size, 6, none⟩ = some (.slice q1 v.mems.length d1) ∧ W8.drew.cell? ⟨w1.heap.size, 7, none⟩ = some (.int .i64 v.at') ∧ W8.drew.cell? ⟨w1.heap.size, 8, none⟩ = some (.int .i64 (u : Int)) := ⟨G8.var.cell 0, G8.mem.cell 0, G8.mem.cell 1, G8.mem.cell 2, G8.mem.cell 3, G8.mem.cell 4, G8.mem.cell 5, G8.mem.cell 6, G8.mem.cell 7, G8.mem.cell 8⟩
    have hH8 : w1.heap.size < W8.heap.size := by rw [hz8]; omega
    clear G7 S7 G8 S8 P8 X8 hx P7 K7 B78
    go_wp2
    simp only [← hW8]
    clear r1 r2 r3 r4 r5 r6 r7 y1 y2 y3 y4 y5 y6 y7 hW8
    refine wp_region_late (S := fun w' => w'.cell? ⟨wS.heap.size + 2, 0, none⟩ = some (.slice A0 st.length C0) ∧ w'.cell? ⟨w1.heap.size, 0, none⟩ = some (.string KB) ∧ w'.cell? ⟨w1.heap.size, 1, none⟩ = some (.int .i64 v.kind) ∧ w'.cell? ⟨w1.heap.size, 2, none⟩ = some (.bool v.b) ∧ w'.cell? ⟨w1.heap.size, 3, none⟩ = some (.int .i64 v.n) ∧ w'.cell? ⟨w1.heap.size, 4, none⟩ = some (.string v.s) ∧ w'.cell? ⟨w1.heap.size, 5, none⟩ = some (.slice p1 v.items.length c1) ∧ w'.cell? ⟨w1.heap.size, 6, none⟩ = some (.slice q1 v.mems.length d1) ∧ w'.cell? ⟨w1.heap.size, 7, none⟩ = some (.int .i64 v.at') ∧ w'.cell? ⟨w1.heap.size, 8, none⟩ = some (.int .i64 (u : Int))) (D := [4, 5, 6, 7]) (by kernel_rfl) ?_
    refine anyL_take (i := 0) (oi := { dst := Option.some 32, op := Go.Op.load 23 (Go.Operand.tmp 3), type := 23, pos := "parser.go:159", after := #[], guard := Option.none }) (v := ?_) rfl (by decide) (by kernel_rfl) (by kernel_rfl) (by kernel_rfl) (by kernel_rfl) (fun _ _ _ h => h) (Or.inl ⟨by rfl, ?_⟩) hS ?_
    rotate_left
    · intro wz hSz
      obtain ⟨z, z0, z1, z2, z3, z4, z5, z6, z7, z8⟩ := hSz
      go_simp
      (try with_reducible rfl)
    try simp only [Act.put, List.setIfInBounds_toArray, List.set_cons_zero, List.set_cons_succ]
    refine anyL_take (i := 1) (oi := { dst := Option.some 33, op := Go.Op.load 38 (Go.Operand.tmp 4), type := 38, pos := "parser.go:159", after := #[], guard := Option.none }) (v := ?_) rfl (by decide) (by kernel_rfl) (by kernel_rfl) (by kernel_rfl) (by kernel_rfl) (fun _ _ _ h => h) (Or.inl ⟨by rfl, ?_⟩) hS ?_
    rotate_left
    · intro wz hSz
      obtain ⟨z, z0, z1, z2, z3, z4, z5, z6, z7, z8⟩ := hSz
      go_simp
      (try with_reducible rfl)
    try simp only [Act.put, List.setIfInBounds_toArray, List.set_cons_zero, List.set_cons_succ]
    refine anyL_take (i := 2) (oi := { dst := Option.some 34, op := Go.Op.call { callee := Go.Callee.builtin Go.Builtin.len, args := #[Go.Operand.tmp 32], argTypes := #[23] }, type := 3, pos := "parser.go:159", after := #[{ on := 0, ground := Go.Ground.data }], guard := Option.none }) (v := ?_) rfl (by decide) (by kernel_rfl) (by kernel_rfl) (by kernel_rfl) (by kernel_rfl) (fun _ _ _ h => h) (Or.inl ⟨by rfl, ?_⟩) hS ?_
    rotate_left
    · intro wz hSz
      skip
      go_simp
      (try with_reducible rfl)
    try simp only [Act.put, List.setIfInBounds_toArray, List.set_cons_zero, List.set_cons_succ]
    refine anyL_ready (rs := [3]) (by kernel_rfl) (by simp) ?_
    refine AllL.cons (o := { dst := Option.some 35, op := Go.Op.buildSlice 23 1 #[(0, Go.Operand.const (Go.Value.agg #[Go.Value.string { data := #[] }, Go.Value.int Go.IntKind.i64 0, Go.Value.bool Bool.false, Go.Value.int Go.IntKind.i64 0, Go.Value.string { data := #[] }, Go.Value.slice Option.none 0 0, Go.Value.slice Option.none 0 0, Go.Value.int Go.IntKind.i64 0, Go.Value.int Go.IntKind.i64 0]))], type := 23, pos := "parser.go:159", after := #[], guard := Option.none }) rfl (fun K' hK => ?_) AllL.nil
    go_simp
    obtain ⟨z, z0, z1, z2, z3, z4, z5, z6, z7, z8⟩ := hS
    refine hK _ _ ⟨jcell_alloc z _, jcell_alloc z0 _, jcell_alloc z1 _, jcell_alloc z2 _, jcell_alloc z3 _, jcell_alloc z4 _, jcell_alloc z5 _, jcell_alloc z6 _, jcell_alloc z7 _, jcell_alloc z8 _⟩ ?_
    clear hK K' z z0 z1 z2 z3 z4 z5 z6 z7 z8
    try simp only [Act.put, List.setIfInBounds_toArray, List.set_cons_zero, List.set_cons_succ]
    have hown9 : (W8.alloc (.cells #[.string ⟨#[]⟩, .int .i64 0, .bool false, .int .i64 0, .string ⟨#[]⟩, .slice none 0 0, .slice none 0 0, .int .i64 0, .int .i64 0] 38)).drew.ownsRow (wS.heap.size + 5) 38 9 (.slice A0 st.length C0) st.length xs := (HG8.out.own.alloc _).drew
    have hnews9 : ∀ j u, ([.string ⟨#[]⟩, .int .i64 0, .bool false, .int .i64 0, .string ⟨#[]⟩, .slice none 0 0, .slice none 0 0, .int .i64 0, .int .i64 0] : List Value)[j]? = some u → (W8.alloc (.cells #[.string ⟨#[]⟩, .int .i64 0, .bool false, .int .i64 0, .string ⟨#[]⟩, .slice none 0 0, .slice none 0 0, .int .i64 0, .int .i64 0] 38)).drew.cell? ((⟨W8.heap.size, 0, none⟩ : Addr).add j) = some u := World.news_of_block (w := (W8.alloc (.cells #[.string ⟨#[]⟩, .int .i64 0, .bool false, .int .i64 0, .string ⟨#[]⟩, .slice none 0 0, .slice none 0 0, .int .i64 0, .int .i64 0] 38)).drew) (cs := #[.string ⟨#[]⟩, .int .i64 0, .bool false, .int .i64 0, .string ⟨#[]⟩, .slice none 0 0, .slice none 0 0, .int .i64 0, .int .i64 0]) (heap_alloc_new W8 _)
    refine anyL_ready (rs := [4]) (by kernel_rfl) (by simp) ?_
    refine AllL.consD (o := { dst := Option.some 36, op := Go.Op.call { callee := Go.Callee.builtin Go.Builtin.append, args := #[Go.Operand.tmp 32, Go.Operand.tmp 35], argTypes := #[23, 23] }, type := 23, pos := "parser.go:159", after := #[{ on := 0, ground := Go.Ground.data }, { on := 3, ground := Go.Ground.data }, { on := 0, ground := Go.Ground.phase }, { on := 1, ground := Go.Ground.phase }, { on := 2, ground := Go.Ground.phase }, { on := 3, ground := Go.Ground.phase }], guard := Option.none }) rfl (by decide) (fun K' hK => ?_) AllL.nil
    refine step_append_lies _ rfl (.tmp 32) (.tmp 35) 23 rfl (wS.heap.size + 5) 38 i0 (.agg #[.string ⟨#[]⟩, .int .i64 0, .bool false, .int .i64 0, .string ⟨#[]⟩, .slice none 0 0, .slice none 0 0, .int .i64 0, .int .i64 0]) 9 120 Tryz.underlying23 hi0 hi1 hi3 hi4 rfl (by decide) (.slice A0 st.length C0) st.length xs (by simp [Act.eval]) hown9 ⟨W8.heap.size, 0, none⟩ 1 1 [.string ⟨#[]⟩, .int .i64 0, .bool false, .int .i64 0, .string ⟨#[]⟩, .slice none 0 0, .slice none 0 0, .int .i64 0, .int .i64 0] (by simp [Act.eval]) rfl hnews9 (by intro u hu; simp at hu; rcases hu with rfl | rfl | rfl | rfl | rfl | rfl | rfl | rfl | rfl <;> rfl) (by decide) (by unfold maxLen; omega) (by omega) (by simp; omega) (W8.heap.size + 1) (by simp) ?_
    intro g cap w10 hown10 hgrow10 hat10 hlt10
    have hsz10 := hgrow10.size
    have hzW9 : (W8.alloc (.cells #[.string ⟨#[]⟩, .int .i64 0, .bool false, .int .i64 0, .string ⟨#[]⟩, .slice none 0 0, .slice none 0 0, .int .i64 0, .int .i64 0] 38)).drew.heap.size = W8.heap.size + 1 := by simp
    have hvar10 : Bj w10 (wS.heap.size + 2) #[(.slice A0 st.length C0)] 23 := (hgrow10.block _ (by rw [hzW9]; have := HG8.out.var.lt; omega) (fun e => by have := hown _ e.symm; omega)).trans ((heap_alloc_old W8 _ HG8.out.var.lt).trans HG8.out.var)
    have a10 := hvar10.cell 0
    have f10 := hvar10.fr 0
    simp only [List.getElem?_toArray, List.getElem?_cons_zero] at a10
    have hl10 := jrow_last hown10 hxl
    obtain ⟨t0, t1, t2, t3, t4, t5, t6, t7, t8⟩ : w10.cell? ⟨g, st.length * 9, none⟩ = some (.string ⟨#[]⟩) ∧ w10.cell? ⟨g, st.length * 9 + 1, none⟩ = some (.int .i64 0) ∧ w10.cell? ⟨g, st.length * 9 + 2, none⟩ = some (.bool false) ∧ w10.cell? ⟨g, st.length * 9 + 3, none⟩ = some (.int .i64 0) ∧ w10.cell? ⟨g, st.length * 9 + 4, none⟩ = some (.string ⟨#[]⟩) ∧ w10.cell? ⟨g, st.length * 9 + 5, none⟩ = some (.slice none 0 0) ∧ w10.cell? ⟨g, st.length * 9 + 6, none⟩ = some (.slice none 0 0) ∧ w10.cell? ⟨g, st.length * 9 + 7, none⟩ = some (.int .i64 0) ∧ w10.cell? ⟨g, st.length * 9 + 8, none⟩ = some (.int .i64 0) := ⟨hl10 0 _ rfl, hl10 1 _ rfl, hl10 2 _ rfl, hl10 3 _ rfl, hl10 4 _ rfl, hl10 5 _ rfl, hl10 6 _ rfl, hl10 7 _ rfl, hl10 8 _ rfl⟩
    obtain ⟨y0, y1, y2, y3, y4, y5, y6, y7, y8⟩ : w10.frozen? ⟨g, st.length * 9, none⟩ = false ∧ w10.frozen? ⟨g, st.length * 9 + 1, none⟩ = false ∧ w10.frozen? ⟨g, st.length * 9 + 2, none⟩ = false ∧ w10.frozen? ⟨g, st.length * 9 + 3, none⟩ = false ∧ w10.frozen? ⟨g, st.length * 9 + 4, none⟩ = false ∧ w10.frozen? ⟨g, st.length * 9 + 5, none⟩ = false ∧ w10.frozen? ⟨g, st.length * 9 + 6, none⟩ = false ∧ w10.frozen? ⟨g, st.length * 9 + 7, none⟩ = false ∧ w10.frozen? ⟨g, st.length * 9 + 8, none⟩ = false := ⟨World.ownsRow.frozenAt hown10 _, World.ownsRow.frozenAt hown10 _, World.ownsRow.frozenAt hown10 _, World.ownsRow.frozenAt hown10 _, World.ownsRow.frozenAt hown10 _, World.ownsRow.frozenAt hown10 _, World.ownsRow.frozenAt hown10 _, World.ownsRow.frozenAt hown10 _, World.ownsRow.frozenAt hown10 _⟩
    have hgi : g ≠ wS.heap.size + 2 ∧ wS.heap.size + 2 ≠ g := by
      rcases hat10 with e | e
      · have := hown _ e
        constructor <;> omega
      · constructor <;> omega
    obtain ⟨hgi, hig⟩ := hgi
    have hcm : ∀ (wx : World) (k : Nat) (u : Value), (wx.setCell ⟨wS.heap.size + 2, 0, none⟩ (.slice (some ⟨g, 0, none⟩) (st.length + 1) cap)).setCell ⟨g, k, none⟩ u = (wx.setCell ⟨g, k, none⟩ u).setCell ⟨wS.heap.size + 2, 0, none⟩ (.slice (some ⟨g, 0, none⟩) (st.length + 1) cap) := fun wx k u => jset_comm _ _ _ _ _ hig
    have hres := jrow_store9 hown10 hxl (.string KB) (.int .i64 v.kind) (.bool v.b) (.int .i64 v.n) (.string v.s) (.slice p1 v.items.length c1) (.slice q1 v.mems.length d1) (.int .i64 v.at') (.int .i64 (u : Int))
    have hfin : OutL (MeE wS b d) w0 b s (.returned (.tuple #[])) ((((((((((w10.setCell ⟨g, st.length * 9, none⟩ (.string KB)).setCell ⟨g, st.length * 9 + 1, none⟩ (.int .i64 v.kind)).setCell ⟨g, st.length * 9 + 2, none⟩ (.bool v.b)).setCell ⟨g, st.length * 9 + 3, none⟩ (.int .i64 v.n)).setCell ⟨g, st.length * 9 + 4, none⟩ (.string v.s)).setCell ⟨g, st.length * 9 + 5, none⟩ (.slice p1 v.items.length c1)).setCell ⟨g, st.length * 9 + 6, none⟩ (.slice q1 v.mems.length d1)).setCell ⟨g, st.length * 9 + 7, none⟩ (.int .i64 v.at')).setCell ⟨g, st.length * 9 + 8, none⟩ (.int .i64 (u : Int))).setCell ⟨wS.heap.size + 2, 0, none⟩ (.slice (some ⟨g, 0, none⟩) (st.length + 1) cap)) (.ok (st ++ [.mk KB v (u : Nat)]) j) := by
      generalize (((((((((w10.setCell ⟨g, st.length * 9, none⟩ (.string KB)).setCell ⟨g, st.length * 9 + 1, none⟩ (.int .i64 v.kind)).setCell ⟨g, st.length * 9 + 2, none⟩ (.bool v.b)).setCell ⟨g, st.length * 9 + 3, none⟩ (.int .i64 v.n)).setCell ⟨g, st.length * 9 + 4, none⟩ (.string v.s)).setCell ⟨g, st.length * 9 + 5, none⟩ (.slice p1 v.items.length c1)).setCell ⟨g, st.length * 9 + 6, none⟩ (.slice q1 v.mems.length d1)).setCell ⟨g, st.length * 9 + 7, none⟩ (.int .i64 v.at')).setCell ⟨g, st.length * 9 + 8, none⟩ (.int .i64 (u : Int))) = W11 at *
      have hb11 : Bj W11 (wS.heap.size + 2) #[(.slice A0 st.length C0)] 23 := (hres.2.block _ hvar10.lt (fun e => by injection e with e; exact hig e)).trans hvar10
      have hz11 := hres.2.size
      refine MeE.put HE.out HW.out h1 h0 HR.out HG8.out (by omega) (by omega) (n1 := w6.heap.size) (by omega) HX8.out hij hjs HP8.out HS8.out (g := g) (cap := cap) (hat10.imp id (fun e => by omega)) (by simp [World.setCell]; omega) (hres.2.os.trans hgrow10.os) (hres.2.tape.trans hgrow10.tape) (hres.2.output.trans hgrow10.output) (fun k hk hkg hki hkm hko => ?_) (hb11.set 0 _) (jrow_same hres.1 (fun k hk => Below.heap_setCell _ _ _ _ (fun e => by simp only [Value.ownBlock, Option.some.injEq] at hk; exact hgi (hk.trans e))))
      rw [Below.heap_setCell _ _ _ _ hki, hres.2.block k (by omega) (fun e => by injection e with e; exact hkg e), hgrow10.block k (by omega) (fun e => hko e.symm)]
      exact heap_alloc_old W8 _ hk
    have HF := Lib.hid hfin
    clear hfin hres hown10 hgrow10 hown9 hnews9 hat10 hvar10 hl10
    refine hK _ _ ?_
    clear hK K'
    try simp only [Act.put, List.setIfInBounds_toArray, List.set_cons_zero, List.set_cons_succ]
    refine anyL_takeD (i := 5) (oi := { dst := Option.some 37, op := Go.Op.indexAddr 23 (Go.Operand.tmp 36) (Go.Operand.tmp 34), type := 0, pos := "parser.go:159", after := #[{ on := 4, ground := Go.Ground.data }, { on := 2, ground := Go.Ground.data }, { on := 0, ground := Go.Ground.phase }, { on := 1, ground := Go.Ground.phase }, { on := 2, ground := Go.Ground.phase }, { on := 3, ground := Go.Ground.phase }, { on := 4, ground := Go.Ground.phase }, { on := 7, ground := Go.Ground.gcOnly Go.Departure.appendInPlace }], guard := Option.none }) (v := ?_) rfl (by decide) (by kernel_rfl) (by kernel_rfl) (by kernel_rfl) (fun _ _ _ h => h) (Or.inl ⟨by rfl, ?_⟩) ?_
    rotate_left
    · intro wz _
      go_simp
      (try with_reducible rfl)
    try simp only [Act.put, List.setIfInBounds_toArray, List.set_cons_zero, List.set_cons_succ]
    refine anyL_ready (rs := [6, 7]) (by kernel_rfl) (by simp) ?_
    refine AllL.consD (o := { dst := Option.none, op := Go.Op.store 38 (Go.Operand.tmp 37) (Go.Operand.tmp 33), type := 0, pos := "parser.go:159", after := #[{ on := 5, ground := Go.Ground.data }, { on := 1, ground := Go.Ground.data }, { on := 4, ground := Go.Ground.chain }, { on := 0, ground := Go.Ground.phase }, { on := 1, ground := Go.Ground.phase }, { on := 2, ground := Go.Ground.phase }, { on := 3, ground := Go.Ground.phase }, { on := 4, ground := Go.Ground.phase }, { on := 7, ground := Go.Ground.gcOnly Go.Departure.appendInPlace }], guard := Option.none }) rfl (by decide) (fun K' hK => ?_) (AllL.consD (o := { dst := Option.none, op := Go.Op.store 23 (Go.Operand.tmp 3) (Go.Operand.tmp 36), type := 0, pos := "parser.go:159", after := #[{ on := 4, ground := Go.Ground.data }, { on := 4, ground := Go.Ground.chain }, { on := 6, ground := Go.Ground.textOnly Go.Departure.appendInPlace }, { on := 0, ground := Go.Ground.phase }, { on := 1, ground := Go.Ground.phase }, { on := 2, ground := Go.Ground.phase }, { on := 3, ground := Go.Ground.phase }, { on := 4, ground := Go.Ground.phase }, { on := 5, ground := Go.Ground.textOnly Go.Departure.appendInPlace }, { on := 6, ground := Go.Ground.textOnly Go.Departure.appendInPlace }], guard := Option.none }) rfl (by decide) (fun K' hK => ?_) AllL.nil)
    · go_simp
      refine hK _ _ ?_
      clear hK K'
      try simp only [Act.put, List.setIfInBounds_toArray, List.set_cons_zero, List.set_cons_succ]
      refine anyL_ready (rs := [7]) (by kernel_rfl) (by simp) ?_
      refine AllL.consD (o := { dst := Option.none, op := Go.Op.store 23 (Go.Operand.tmp 3) (Go.Operand.tmp 36), type := 0, pos := "parser.go:159", after := #[{ on := 4, ground := Go.Ground.data }, { on := 4, ground := Go.Ground.chain }, { on := 6, ground := Go.Ground.textOnly Go.Departure.appendInPlace }, { on := 0, ground := Go.Ground.phase }, { on := 1, ground := Go.Ground.phase }, { on := 2, ground := Go.Ground.phase }, { on := 3, ground := Go.Ground.phase }, { on := 4, ground := Go.Ground.phase }, { on := 5, ground := Go.Ground.textOnly Go.Departure.appendInPlace }, { on := 6, ground := Go.Ground.textOnly Go.Departure.appendInPlace }], guard := Option.none }) rfl (by decide) (fun K' hK => ?_) AllL.nil
      go_simp
      refine hK _ _ ?_
      clear hK K'
      refine anyL_done (by kernel_rfl) ?_ _
      exact bodyPost_end (results_none rfl _ _ _) rfl HF.out
    · go_simp
      refine hK _ _ ?_
      clear hK K'
      try simp only [Act.put, List.setIfInBounds_toArray, List.set_cons_zero, List.set_cons_succ]
      refine anyL_ready (rs := [6]) (by kernel_rfl) (by simp) ?_
      refine AllL.consD (o := { dst := Option.none, op := Go.Op.store 38 (Go.Operand.tmp 37) (Go.Operand.tmp 33), type := 0, pos := "parser.go:159", after := #[{ on := 5, ground := Go.Ground.data }, { on := 1, ground := Go.Ground.data }, { on := 4, ground := Go.Ground.chain }, { on := 0, ground := Go.Ground.phase }, { on := 1, ground := Go.Ground.phase }, { on := 2, ground := Go.Ground.phase }, { on := 3, ground := Go.Ground.phase }, { on := 4, ground := Go.Ground.phase }, { on := 7, ground := Go.Ground.gcOnly Go.Departure.appendInPlace }], guard := Option.none }) rfl (by decide) (fun K' hK => ?_) AllL.nil
      go_simp
      refine hK _ _ ?_
      clear hK K'
      refine anyL_done (by kernel_rfl) ?_ _
      try simp only [hcm]
      exact bodyPost_end (results_none rfl _ _ _) rfl HF.out
end Go.Proofs.YtdooadalkbghgaaGreatDoor
end
