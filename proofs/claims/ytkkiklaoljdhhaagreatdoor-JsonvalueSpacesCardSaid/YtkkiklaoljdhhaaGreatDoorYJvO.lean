/- Packed from the texts JvO. -/
import Derived.Test.YtkkiklaoljdhhaaGreatDoorYJvL
import Derived.BigRegion
section
namespace Go.Proofs.YtkkiklaoljdhhaaGreatDoor
open Go.RowKit
set_option maxRecDepth 100000 in
set_option maxHeartbeats 64000000 in
theorem jref_listO (f : Nat) (IH : ∀ g, g < f → JvC' g) (s : ByteArray) (i d : Nat) (w : World) (hs : s.size ≤ 1000000) (hi : i < s.size) (hd : d ≤ 100) (hf : 3 * (s.size - i) ≤ f) (hc : s.data.toList.getD i 0 = 123) :
    Calls Tryz.prog 48 #[.string s, .int .i64 i, .int .i64 d] w fun e w' => (∃ x, e = .returned x ∧ ResIs w' w.heap.size s.size i (headK (f + 1) i (s.data.toList.drop i) d) x) ∧ Below w.heap.size w w' := by
  have hsl : s.data.toList.length = s.size := by simp
  have hix := jix s .i64 (i : Int) i rfl hi
  rw [hc, show (((123 : UInt8).toNat : Nat) : Int) = 123 from rfl] at hix
  have hsu := spP_le s.data.toList (i + 1) (by omega)
  rw [hsl] at hsu
  have cS : ∀ wx, _ := fun wx => jref_spaces s (i + 1) wx hs (by omega)
  rw [show ((i + 1 : Nat) : Int) = (i : Int) + 1 by omega] at cS
  have hhd := head_list s.data.toList f i d true (by omega) hc hd
  rw [show [endB true] = [125] from rfl, show kindB true = 5 from rfl] at hhd
  have cH : ∀ wx, _ := fun wx => tref_Has s ⟨#[125]⟩ ((spP s.data.toList (i + 1) : Nat) : Int) wx hs (by decide) (by decide) (by omega)
  rw [show ((⟨#[125]⟩ : ByteArray).data.toList) = [125] from rfl] at cH
  obtain ⟨u0, hu0⟩ : ∃ u0, spP s.data.toList (i + 1) = u0 := ⟨_, rfl⟩
  rw [hu0] at hsu cS hhd cH
  obtain ⟨R, hR⟩ : ∃ R, headK (f + 1) i (s.data.toList.drop i) d = R := ⟨_, rfl⟩
  rw [hR] at hhd
  rw [hR]
  obtain ⟨W, hW⟩ : ∃ W, W = (w.alloc (.cells #[.int .i64 0, .bool false, .int .i64 0, .string ⟨#[]⟩, .slice none 0 0, .slice none 0 0, .int .i64 0, .int .i64 0, .int .i64 0] 54)).alloc (.cells #[.int .i64 5, .bool false, .int .i64 0, .string ⟨#[]⟩, .slice none 0 0, .slice none 0 0, .int .i64 (i : Int)] 26) := ⟨_, rfl⟩
  have hLs : LsO w i [] none 0 [] W := by
    refine ⟨?_, ?_, World.ownsRow_nil _ _ _ _, by unfold MRow; rfl, ?_, ?_⟩
    · rw [hW]; exact Bj.second w _ _ _
    · rw [hW]; exact Bj.first w _ _ _
    · rw [hW]; exact ((Below.refl _ _).alloc (Nat.le_refl _) _).alloc (by simp) _
    · rw [hW]; simp
  have HLS := Lib.hid hLs
  have HSL := Lib.hid hsl
  have hiu : i + 1 ≤ u0 := hsu.1
  have hus : u0 ≤ s.size := hsu.2
  have hlt0 := hasP_lt s.data.toList u0 125
  rw [hsl] at hlt0
  clear hu0 hR hLs hc hsl hsu
  generalize hasP s.data.toList (u0 : Int) [125] = h0 at *
  have HHD := Lib.hid hhd
  clear hhd
  go_enter Tryz.func48, Tryz.ntmps48
  go_upto_region 6 with fail
  simp only [← hW]
  clear hW
  go_wp2_with fail
  refine (cS _).mono ?_
  rintro en w3 ⟨rfl, rfl⟩
  go_wp2_with fail
  refine (cH _).mono ?_
  rintro en w3 ⟨rfl, rfl⟩
  rcases h0 with _ | _
  case true =>
    have hlt1 := hlt0 rfl
    have HD := Lib.hid (HHD.out.trans (if_pos rfl))
    have t0 : W.cell? ⟨w.heap.size + 1, 0, none⟩ = some (.int .i64 5) := HLS.out.box.cell 0
    have t1 : W.cell? ⟨w.heap.size + 1, 1, none⟩ = some (.bool false) := HLS.out.box.cell 1
    have t2 : W.cell? ⟨w.heap.size + 1, 2, none⟩ = some (.int .i64 0) := HLS.out.box.cell 2
    have t3 : W.cell? ⟨w.heap.size + 1, 3, none⟩ = some (.string ⟨#[]⟩) := HLS.out.box.cell 3
    have t4 : W.cell? ⟨w.heap.size + 1, 4, none⟩ = some (.slice none 0 0) := HLS.out.box.cell 4
    have t5 : W.cell? ⟨w.heap.size + 1, 5, none⟩ = some (.slice none 0 0) := HLS.out.box.cell 5
    have t6 : W.cell? ⟨w.heap.size + 1, 6, none⟩ = some (.int .i64 (i : Int)) := HLS.out.box.cell 6
    obtain ⟨⟨r0, r1, r2, r3, r4, r5, r6, r7, r8⟩, k0, k1, k2, k3, k4, k5, k6, k7, k8⟩ := (HLS.out.res).nine
    clear cS cH IH HHD HSL
    go_wp2
    exact bodyPost_ret (v := resV 5 false 0 ⟨#[]⟩ none 0 0 none ([] : List MemD).length 0 i ((u0 : Int) + 1) 0) (by simp [results, Tryz.results48, go_sem, resV, jset_same, r0, r1, r2, r3, r4, r5, r6, r7, r8]) rfl (have q := HLS.out.done (jset9 (Pj.refl (fun b => b = w.heap.size) W) (b := w.heap.size) (.inl rfl) 0 _ _ _ _ _ _ _ _ _) (u := i) (k := u0 + 1 - i) (n := s.size) (by omega) (y := (u0 : Int) + 1) (by omega); ⟨⟨_, rfl, by rw [HD.out]; exact q.1⟩, q.2⟩)
  case false =>
    have HRL := Lib.hid (fun (w' : World) (x : Value) (h : ResIs w' w.heap.size s.size u0 (listK f true i [] [] u0 (s.data.toList.drop u0) d) x) => show ResIs w' w.heap.size s.size i R x by
      rw [HHD.out, if_neg (by decide)]
      refine ResIs.plus ?_
      rw [show i + (u0 - i) = u0 by omega]
      exact h)
    clear HHD cS cH hix hlt0
    go_wp2
    go_loopw [9] (fun q wr => ∃ (u fu : Nat) (l : List MemD) (p : Option Addr) (c : Nat) (xs : List Value), q = .int .i64 (u : Int) ∧ i + 1 ≤ u ∧ u ≤ s.size ∧ 3 * (s.size - u) + 3 ≤ fu ∧ fu ≤ f ∧ l.length ≤ u ∧ (l = [] → p = none ∧ c = 0) ∧ (∀ (w' : World) (x : Value), ResIs w' w.heap.size s.size u (listK fu true i [] l u (s.data.toList.drop u) d) x → ResIs w' w.heap.size s.size i R x) ∧ LsO w i l p c xs wr) (fun q _ => s.size - (RowKit.intOf q).toNat)
    case atStart => exact ⟨u0, f, [], none, 0, [], rfl, hiu, hus, by omega, Nat.le_refl _, Nat.zero_le _, fun _ => ⟨rfl, rfl⟩, HRL.out, HLS.out⟩
    case round =>
      clear HRL HLS hiu hus
      obtain ⟨u, fu, l, p, c, xs, rfl, hiu, hus, hg1, hg2, hlu, hl0, hrel, hL⟩ := hrel
      obtain ⟨fu, rfl⟩ : ∃ g', fu = g' + 1 := ⟨fu - 1, by omega⟩
      have HL0 := Lib.hid hl0
      have hsu := spP_le s.data.toList u (by rw [HSL.out]; exact hus)
      rw [HSL.out] at hsu
      have cS : ∀ wx, _ := fun wx => jref_spaces s u wx hs (by omega)
      have hstep := listK_O s.data.toList fu i u d l
      obtain ⟨st, hst⟩ : ∃ st, spP s.data.toList u = st := ⟨_, rfl⟩
      rw [hst] at hsu cS hstep
      have hs1 : u ≤ st := hsu.1
      have hs2 : st ≤ s.size := hsu.2
      have hLz := hL.lt
      have cK := jref_key s st 5 false 0 ⟨#[]⟩ none 0 0 p c (i : Int) (l.map MemD.key) wr hs hs2 (by rw [List.length_map]; omega) hL.keys
      rw [List.length_map] at cK
      have HLx := Lib.hid hL
      have HREL := Lib.hid hrel
      have t0 : wr.cell? ⟨w.heap.size + 1, 0, none⟩ = some (.int .i64 5) := HLx.out.box.cell 0
      have t1 : wr.cell? ⟨w.heap.size + 1, 1, none⟩ = some (.bool false) := HLx.out.box.cell 1
      have t2 : wr.cell? ⟨w.heap.size + 1, 2, none⟩ = some (.int .i64 0) := HLx.out.box.cell 2
      have t3 : wr.cell? ⟨w.heap.size + 1, 3, none⟩ = some (.string ⟨#[]⟩) := HLx.out.box.cell 3
      have t4 : wr.cell? ⟨w.heap.size + 1, 4, none⟩ = some (.slice none 0 0) := HLx.out.box.cell 4
      have t5 : wr.cell? ⟨w.heap.size + 1, 5, none⟩ = some (.slice p l.length c) := HLx.out.box.cell 5
      have t6 : wr.cell? ⟨w.heap.size + 1, 6, none⟩ = some (.int .i64 (i : Int)) := HLx.out.box.cell 6
      clear hst hsu hL hrel hl0
      rcases hK : keyK st (s.data.toList.drop st) (l.map MemD.key) with ⟨a, e⟩ | ⟨key, kk⟩
      · have he := keyK_ne _ _ _ _ _ hK
        rw [hK] at cK hstep
        simp only at hstep
        simp only [kOut] at cK
        have HXx := Lib.hid (fun (w' : World) => HREL.out w' (errV a e) (by rw [hstep]; exact ⟨rfl, he⟩))
        have he1 : (e != 0) = true := by simpa using he
        clear hK hstep HREL he HL0
        go_wp2_with fail
        refine (cS _).mono ?_
        rintro en w3 ⟨rfl, rfl⟩
        go_wp2_with fail
        refine cK.mono ?_
        rintro en w2 ⟨rfl, b2⟩
        have hb2 := b2.size
        have HL2 := Lib.hid (HLx.out.more b2)
        obtain ⟨⟨r0, r1, r2, r3, r4, r5, r6, r7, r8⟩, k0, k1, k2, k3, k4, k5, k6, k7, k8⟩ := (HL2.out.res).nine
        have HBo := Lib.hid HL2.out.below
        clear b2 cS cK
        go_wp2
        exact bodyPost_ret (v := errV a e) (by simp [results, Tryz.results48, go_sem, errV, jset_same, r0, r1, r2, r3, r4, r5, r6, r7, r8]) rfl ⟨⟨_, rfl, HXx.out _⟩, (jset9 (Pj.refl (fun b => b = w.heap.size) _) (b := w.heap.size) (.inl rfl) 0 _ _ _ _ _ _ _ _ _).below HBo.out (fun b hb => by omega) HBo.out.size⟩
      · have hkl := keyK_le _ _ _ _ _ hK
        rw [List.length_drop, HSL.out] at hkl
        rw [hK] at cK hstep
        simp only at hstep
        simp only [kOut] at cK
        obtain ⟨vs, hvs⟩ : ∃ vs, st + kk = vs := ⟨_, rfl⟩
        obtain ⟨kx, hkx⟩ : ∃ kx, ofBytes key = kx := ⟨_, rfl⟩
        rw [hvs, hkx] at hstep cK
        have hv1 : st ≤ vs := by omega
        have hv2 : vs ≤ s.size := by omega
        clear hK hkl hvs hkx
        go_wp2_with fail
        refine (cS _).mono ?_
        rintro en w3 ⟨rfl, rfl⟩
        go_wp2_with fail
        refine cK.mono ?_
        rintro en w1 ⟨rfl, b1⟩
        have hb1 := b1.size
        have HL1 := Lib.hid (HLx.out.more b1)
        have cV := IH fu (by omega) s vs (d + 1) w1 hs hv2 (by omega) (by omega)
        rw [show ((d + 1 : Nat) : Int) = (d : Int) + 1 by omega] at cV
        clear b1 cK t0 t1 t2 t3 t4 t5 t6 HLx cS
        have hLz1 := HL1.out.lt
        have t0 : w1.cell? ⟨w.heap.size + 1, 0, none⟩ = some (.int .i64 5) := HL1.out.box.cell 0
        have t1 : w1.cell? ⟨w.heap.size + 1, 1, none⟩ = some (.bool false) := HL1.out.box.cell 1
        have t2 : w1.cell? ⟨w.heap.size + 1, 2, none⟩ = some (.int .i64 0) := HL1.out.box.cell 2
        have t3 : w1.cell? ⟨w.heap.size + 1, 3, none⟩ = some (.string ⟨#[]⟩) := HL1.out.box.cell 3
        have t4 : w1.cell? ⟨w.heap.size + 1, 4, none⟩ = some (.slice none 0 0) := HL1.out.box.cell 4
        have t5 : w1.cell? ⟨w.heap.size + 1, 5, none⟩ = some (.slice p l.length c) := HL1.out.box.cell 5
        have t6 : w1.cell? ⟨w.heap.size + 1, 6, none⟩ = some (.int .i64 (i : Int)) := HL1.out.box.cell 6
        rcases hV : valK fu vs (s.data.toList.drop vs) (d + 1) with ⟨a, e⟩ | ⟨v, kv⟩
        · rw [hV] at cV hstep
          simp only at hstep
          have HX := Lib.hid (fun (w' : World) (he : e ≠ 0) => HREL.out w' (errV a e) (by rw [hstep]; exact ⟨rfl, he⟩))
          clear hV hstep HREL
          go_wp2_with fail
          refine cV.mono ?_
          rintro en w2 ⟨⟨x, rfl, hx⟩, b2⟩
          obtain ⟨rfl, he⟩ := hx
          have he1 : (e != 0) = true := by simpa using he
          have HXx := Lib.hid (fun w' => HX.out w' he)
          have hb2 := b2.size
          have HL2 := Lib.hid (HL1.out.more b2)
          have HN := Lib.hid (HL2.out.res.more ((Below.refl _ _).alloc (Nat.le_refl _) (.cells #[.int .i64 0, .bool false, .int .i64 0, .string ⟨#[]⟩, .slice none 0 0, .slice none 0 0, .int .i64 0, .int .i64 a, .int .i64 e] 54)))
          obtain ⟨⟨r0, r1, r2, r3, r4, r5, r6, r7, r8⟩, k0, k1, k2, k3, k4, k5, k6, k7, k8⟩ := (HN.out).nine
          have HBo := Lib.hid (HL2.out.below.alloc HL2.out.below.size (.cells #[.int .i64 0, .bool false, .int .i64 0, .string ⟨#[]⟩, .slice none 0 0, .slice none 0 0, .int .i64 0, .int .i64 a, .int .i64 e] 54))
          clear b2 HX he cV HL0
          unfold errV
          go_wp2
          exact bodyPost_ret (v := errV a e) (by simp [results, Tryz.results48, go_sem, errV, jset_same, r0, r1, r2, r3, r4, r5, r6, r7, r8]) rfl ⟨⟨_, rfl, HXx.out _⟩, (jset9 (Pj.refl (fun b => b = w.heap.size) _) (b := w.heap.size) (.inl rfl) 0 _ _ _ _ _ _ _ _ _).below HBo.out (fun b hb => by omega) HBo.out.size⟩
        · rw [hV] at cV hstep
          simp only at hstep
          clear hV
          go_wp2_with fail
          refine cV.mono ?_
          rintro en w6 ⟨⟨x, rfl, hx⟩, b6⟩
          obtain ⟨hle, vp, vc, vq, vd, hx1, hI, hM⟩ := hx
          obtain ⟨tz, hto⟩ : ∃ tz, vs + kv = tz := ⟨_, rfl⟩
          rw [hto] at hle hstep hx1
          subst hx1
          have hut : u ≤ tz := by omega
          have hsp := spP_le s.data.toList tz (by rw [HSL.out]; exact hle)
          obtain ⟨n1, hn1⟩ : ∃ n1, spP s.data.toList tz = n1 := ⟨_, rfl⟩
          rw [HSL.out, hn1] at hsp
          have cS2 : ∀ wx, _ := fun wx => jref_spaces s tz wx hs (by omega)
          rw [hn1] at cS2
          have cH1 : ∀ wx, _ := fun wx => tref_Has s ⟨#[125]⟩ (n1 : Int) wx hs (by decide) (by decide) (by omega)
          rw [show ((⟨#[125]⟩ : ByteArray).data.toList) = [125] from rfl] at cH1
          have cH2 : ∀ wx, _ := fun wx => tref_Has s ⟨#[44]⟩ (n1 : Int) wx hs (by decide) (by decide) (by omega)
          rw [show ((⟨#[44]⟩ : ByteArray).data.toList) = [44] from rfl] at cH2
          have cW : ∀ wx, _ := fun wx => jref_wrong s n1 wx
          have hwE := wrongE_drop s.data.toList n1 (by rw [HSL.out]; exact hsp.2)
          rw [HSL.out] at hwE
          rw [hn1, ← hwE] at hstep
          have hl1 := hasP_lt s.data.toList n1 125
          have hl2 := hasP_lt s.data.toList n1 44
          rw [HSL.out] at hl1 hl2
          have hn2 : tz ≤ n1 := hsp.1
          have hn3 : n1 ≤ s.size := hsp.2
          generalize hasP s.data.toList (n1 : Int) [125] = h1 at *
          generalize hasP s.data.toList (n1 : Int) [44] = h2 at *
          have hwr : ResIs w6 0 s.size n1 (.err (wrongE s.size n1).1 (wrongE s.size n1).2) (errV (wrongE s.size n1).1 (wrongE s.size n1).2) := ⟨rfl, by unfold wrongE; split <;> simp⟩
          have hwr2 := hwr.2
          generalize (wrongE s.size n1).1 = y1 at *
          generalize (wrongE s.size n1).2 = y2 at *
          have HST := Lib.hid hstep
          have HWR := Lib.hid hwr2
          unfold errV at cW
          have hv : ValIs (sans w6 (low w1.heap.size)) v (.agg #[.int .i64 v.kind, .bool v.b, .int .i64 v.n, .string v.s, .slice vp v.items.length vc, .slice vq v.mems.length vd, .int .i64 v.at']) := (val_is _ _ _).2 ⟨vp, vc, vq, vd, rfl, hI, hM⟩
          obtain ⟨wq, hwq⟩ : ∃ wq, wq = w6.alloc (.cells #[.int .i64 v.kind, .bool v.b, .int .i64 v.n, .string v.s, .slice vp v.items.length vc, .slice vq v.mems.length vd, .int .i64 v.at', .int .i64 (tz : Int), .int .i64 0] 54) := ⟨_, rfl⟩
          have bq : Below w6.heap.size w6 wq := by rw [hwq]; exact (Below.refl _ _).alloc (Nat.le_refl _) _
          have hKb : Bj wq w6.heap.size #[.int .i64 v.kind, .bool v.b, .int .i64 v.n, .string v.s, .slice vp v.items.length vc, .slice vq v.mems.length vd, .int .i64 v.at', .int .i64 (tz : Int), .int .i64 0] 54 := by rw [hwq]; exact Bj.new w6 _ _
          have hb6 := b6.size
          have hbq := bq.size
          have HLq := Lib.hid ((HL1.out.more b6).more bq)
          have HPU := Lib.hid (fun (W5 : World) (g cap : Nat) (b5 : Below wq.heap.size wq W5) (hr : W5.ownsRow wq.heap.size 44 9 (.slice (some ⟨g, 0, none⟩) (l.length + 1) cap) (l.length + 1) (xs ++ [.string kx, .int .i64 v.kind, .bool v.b, .int .i64 v.n, .string v.s, .slice vp v.items.length vc, .slice vq v.mems.length vd, .int .i64 v.at', .int .i64 (st : Int)])) => HL1.out.push (v := MemD.mk kx v (st : Int)) b6 hv bq b5 hr)
          have HKB := Lib.hid hKb
          have x8 : wq.cell? ⟨w6.heap.size, 8, none⟩ = some (.int .i64 0) := hKb.cell 8
          have t0 : wq.cell? ⟨w.heap.size + 1, 0, none⟩ = some (.int .i64 5) := HLq.out.box.cell 0
          clear hwr hwr2 hstep hto hn1 hsp hwE cV hI hM hv t1 t2 t3 t4 t5 t6 IH hs1 hs2 hv1 hv2
          unfold resV
          go_upto_region 18 with fail
          simp only [← hwq]
          clear hwq b6
          go_upto_if 64 with fail
          go_cut [] (fun wx => ∃ (p' : Option Addr) (c' : Nat) (xs' : List Value), LsO w i (l ++ [MemD.mk kx v (st : Int)]) p' c' xs' wx ∧ Bj wx w6.heap.size #[.int .i64 v.kind, .bool v.b, .int .i64 v.n, .string v.s, .slice vp v.items.length vc, .slice vq v.mems.length vd, .int .i64 v.at', .int .i64 (tz : Int), .int .i64 0] 54)
          case first =>
            have hk1 : ∀ y ∈ ([.string kx, .int .i64 v.kind, .bool v.b, .int .i64 v.n, .string v.s, .slice vp v.items.length vc, .slice vq v.mems.length vd, .int .i64 v.at', .int .i64 (st : Int)] : List Value), y.oneCell' = true := by
              intro y hy
              simp only [List.mem_cons, List.not_mem_nil, or_false] at hy
              rcases hy with rfl | rfl | rfl | rfl | rfl | rfl | rfl | rfl | rfl <;> rfl
            have hBox := HLq.out.box
            have hBz := hBox.lt
            have hKz := HKB.out.lt
            have hNJ : NJ (w.heap.size + 1) 5 w6.heap.size (.slice p l.length c) (.int .i64 v.kind) (.bool v.b) (.int .i64 v.n) (.string v.s) (.slice vp v.items.length vc) (.slice vq v.mems.length vd) (.int .i64 v.at') wq := ⟨hBox.cell 5, HKB.out.cell 0, HKB.out.cell 1, HKB.out.cell 2, HKB.out.cell 3, HKB.out.cell 4, HKB.out.cell 5, HKB.out.cell 6⟩
            have hSB : ∀ w', Below wq.heap.size wq w' → NJ (w.heap.size + 1) 5 w6.heap.size (.slice p l.length c) (.int .i64 v.kind) (.bool v.b) (.int .i64 v.n) (.string v.s) (.slice vp v.items.length vc) (.slice vq v.mems.length vd) (.int .i64 v.at') w' := fun w' hb => hNJ.below hb hBz hKz
            clear hNJ hKb x8
            go_wp2
            clear t0
            by_cases hk0 : l = []
            · subst hk0
              obtain ⟨rfl, rfl⟩ := HL0.out rfl
              have hxs : xs = [] := List.length_eq_zero_iff.1 (by rw [HLq.out.row.1]; simp)
              subst hxs
              have bR : Below wq.heap.size wq wq := Below.refl _ _
              have bA : ∀ o, Below wq.heap.size wq (wq.alloc o).drew := fun o => (bR.alloc bR.size o).drew
              have bAA : ∀ o o', Below wq.heap.size wq ((wq.alloc o).alloc o').drew := fun o o' => ((bR.alloc bR.size o).alloc (bR.alloc bR.size o).size o').drew
              have hS0 := hSB _ bR.drew
              have hE1 := (mst_made wq wq.heap.size (Nat.le_refl _)).drew
              have hE1K := ((mst_made wq wq.heap.size (Nat.le_refl _)).alloc (.cells #[.string kx, .int .i64 v.kind, .bool v.b, .int .i64 v.n, .string v.s, .slice vp v.items.length vc, .slice vq v.mems.length vd, .int .i64 v.at', .int .i64 (st : Int)] 44)).drew
              have hE2 : ((wq.alloc (.cells #[.string kx, .int .i64 v.kind, .bool v.b, .int .i64 v.n, .string v.s, .slice vp v.items.length vc, .slice vq v.mems.length vd, .int .i64 v.at', .int .i64 (st : Int)] 44)).alloc (.cells #[] 44)).drew.ownsRow wq.heap.size 44 9 (.slice (some ⟨wq.heap.size + 1, 0, none⟩) 0 0) 0 [] := by
                have := (mst_made (wq.alloc (.cells #[.string kx, .int .i64 v.kind, .bool v.b, .int .i64 v.n, .string v.s, .slice vp v.items.length vc, .slice vq v.mems.length vd, .int .i64 v.at', .int .i64 (st : Int)] 44)) wq.heap.size (bR.alloc bR.size _).size).drew
                rwa [show (wq.alloc (.cells #[.string kx, .int .i64 v.kind, .bool v.b, .int .i64 v.n, .string v.s, .slice vp v.items.length vc, .slice vq v.mems.length vd, .int .i64 v.at', .int .i64 (st : Int)] 44)).heap.size = wq.heap.size + 1 by simp] at this
              have blkB : ((wq.alloc (.cells #[] 44)).alloc (.cells #[.string kx, .int .i64 v.kind, .bool v.b, .int .i64 v.n, .string v.s, .slice vp v.items.length vc, .slice vq v.mems.length vd, .int .i64 v.at', .int .i64 (st : Int)] 44)).drew.heap[wq.heap.size + 1]? = some (.cells #[.string kx, .int .i64 v.kind, .bool v.b, .int .i64 v.n, .string v.s, .slice vp v.items.length vc, .slice vq v.mems.length vd, .int .i64 v.at', .int .i64 (st : Int)] 44 (0, 0)) := by
                have := heap_alloc_new (wq.alloc (.cells #[] 44)) (.cells #[.string kx, .int .i64 v.kind, .bool v.b, .int .i64 v.n, .string v.s, .slice vp v.items.length vc, .slice vq v.mems.length vd, .int .i64 v.at', .int .i64 (st : Int)] 44)
                rwa [show (wq.alloc (.cells #[] 44)).heap.size = wq.heap.size + 1 by simp] at this
              have blkC : ((wq.alloc (.cells #[.string kx, .int .i64 v.kind, .bool v.b, .int .i64 v.n, .string v.s, .slice vp v.items.length vc, .slice vq v.mems.length vd, .int .i64 v.at', .int .i64 (st : Int)] 44)).alloc (.cells #[] 44)).drew.heap[wq.heap.size]? = some (.cells #[.string kx, .int .i64 v.kind, .bool v.b, .int .i64 v.n, .string v.s, .slice vp v.items.length vc, .slice vq v.mems.length vd, .int .i64 v.at', .int .i64 (st : Int)] 44 (0, 0)) := (heap_alloc_old (wq.alloc (.cells #[.string kx, .int .i64 v.kind, .bool v.b, .int .i64 v.n, .string v.s, .slice vp v.items.length vc, .slice vq v.mems.length vd, .int .i64 v.at', .int .i64 (st : Int)] 44)) (.cells #[] 44) (by simp)).trans (heap_alloc_new wq (.cells #[.string kx, .int .i64 v.kind, .bool v.b, .int .i64 v.n, .string v.s, .slice vp v.items.length vc, .slice vq v.mems.length vd, .int .i64 v.at', .int .i64 (st : Int)] 44))
              refine wp_region_late (S := fun w' => NJ (w.heap.size + 1) 5 w6.heap.size (.slice none 0 0) (.int .i64 v.kind) (.bool v.b) (.int .i64 v.n) (.string v.s) (.slice vp v.items.length vc) (.slice vq v.mems.length vd) (.int .i64 v.at') w') (D := [11, 12]) (by kernel_rfl) ?_
              refine anyL_take (i := 1) (oi := { dst := some 66, op := Go.Op.fieldAddr 26 (Go.Operand.tmp 7) 5, type := 0, pos := "ref.go:160", after := #[], guard := none }) (v := ?_) rfl (by decide) (by kernel_rfl) (by kernel_rfl) (by kernel_rfl) (by kernel_rfl) (fun _ _ _ h => h) (Or.inl ⟨by rfl, ?_⟩) hS0 ?_
              rotate_left
              · intro wz hSz
                obtain ⟨z0, z1, z2, z3, z4, z5, z6, z7⟩ := hSz
                go_simp
                (try with_reducible rfl)
              try simp only [Act.put, List.setIfInBounds_toArray, List.set_cons_zero, List.set_cons_succ]
              refine anyL_take (i := 2) (oi := { dst := some 67, op := Go.Op.load 24 (Go.Operand.tmp 66), type := 24, pos := "ref.go:160", after := #[{ on := 1, ground := Go.Ground.data }], guard := none }) (v := ?_) rfl (by decide) (by kernel_rfl) (by kernel_rfl) (by kernel_rfl) (by kernel_rfl) (fun _ _ _ h => h) (Or.inl ⟨by rfl, ?_⟩) hS0 ?_
              rotate_left
              · intro wz hSz
                obtain ⟨z0, z1, z2, z3, z4, z5, z6, z7⟩ := hSz
                go_simp
                (try with_reducible rfl)
              try simp only [Act.put, List.setIfInBounds_toArray, List.set_cons_zero, List.set_cons_succ]
              refine anyL_take (i := 4) (oi := { dst := some 69, op := Go.Op.move (Go.Operand.tmp 11), type := 9, pos := "ref.go:160", after := #[], guard := none }) (v := ?_) rfl (by decide) (by kernel_rfl) (by kernel_rfl) (by kernel_rfl) (by kernel_rfl) (fun _ _ _ h => h) (Or.inl ⟨by rfl, ?_⟩) hS0 ?_
              rotate_left
              · intro wz hSz
                obtain ⟨z0, z1, z2, z3, z4, z5, z6, z7⟩ := hSz
                go_simp
                (try with_reducible rfl)
              try simp only [Act.put, List.setIfInBounds_toArray, List.set_cons_zero, List.set_cons_succ]
              refine anyL_take (i := 5) (oi := { dst := some 70, op := Go.Op.fieldAddr 54 (Go.Operand.tmp 13) 0, type := 0, pos := "ref.go:160", after := #[], guard := none }) (v := ?_) rfl (by decide) (by kernel_rfl) (by kernel_rfl) (by kernel_rfl) (by kernel_rfl) (fun _ _ _ h => h) (Or.inl ⟨by rfl, ?_⟩) hS0 ?_
              rotate_left
              · intro wz hSz
                obtain ⟨z0, z1, z2, z3, z4, z5, z6, z7⟩ := hSz
                go_simp
                (try with_reducible rfl)
              try simp only [Act.put, List.setIfInBounds_toArray, List.set_cons_zero, List.set_cons_succ]
              refine anyL_take (i := 6) (oi := { dst := some 71, op := Go.Op.load 26 (Go.Operand.tmp 70), type := 26, pos := "ref.go:160", after := #[{ on := 5, ground := Go.Ground.data }], guard := none }) (v := ?_) rfl (by decide) (by kernel_rfl) (by kernel_rfl) (by kernel_rfl) (by kernel_rfl) (fun _ _ _ h => h) (Or.inl ⟨by rfl, ?_⟩) hS0 ?_
              rotate_left
              · intro wz hSz
                obtain ⟨z0, z1, z2, z3, z4, z5, z6, z7⟩ := hSz
                go_simp
                (try with_reducible rfl)
              try simp only [Act.put, List.setIfInBounds_toArray, List.set_cons_zero, List.set_cons_succ]
              refine anyL_take (i := 7) (oi := { dst := some 72, op := Go.Op.move (Go.Operand.tmp 10), type := 3, pos := "ref.go:160", after := #[], guard := none }) (v := ?_) rfl (by decide) (by kernel_rfl) (by kernel_rfl) (by kernel_rfl) (by kernel_rfl) (fun _ _ _ h => h) (Or.inl ⟨by rfl, ?_⟩) hS0 ?_
              rotate_left
              · intro wz hSz
                obtain ⟨z0, z1, z2, z3, z4, z5, z6, z7⟩ := hSz
                go_simp
                (try with_reducible rfl)
              try simp only [Act.put, List.setIfInBounds_toArray, List.set_cons_zero, List.set_cons_succ]
              refine anyL_take (i := 8) (oi := { dst := some 73, op := Go.Op.build 44 #[(0, Go.Operand.tmp 69), (1, Go.Operand.tmp 71), (2, Go.Operand.tmp 72)], type := 44, pos := "ref.go:160", after := #[{ on := 4, ground := Go.Ground.data }, { on := 6, ground := Go.Ground.data }, { on := 7, ground := Go.Ground.data }], guard := none }) (v := ?_) rfl (by decide) (by kernel_rfl) (by kernel_rfl) (by kernel_rfl) (by kernel_rfl) (fun _ _ _ h => h) (Or.inl ⟨by rfl, ?_⟩) hS0 ?_
              rotate_left
              · intro wz hSz
                obtain ⟨z0, z1, z2, z3, z4, z5, z6, z7⟩ := hSz
                go_simp
                (try with_reducible rfl)
              try simp only [Act.put, List.setIfInBounds_toArray, List.set_cons_zero, List.set_cons_succ]
              refine anyL_ready (rs := [0, 9]) (by kernel_rfl) (by simp) ?_
              refine AllL.cons (o := { dst := some 65, op := Go.Op.buildSlice 24 0 #[], type := 24, pos := "ref.go:160", after := #[], guard := none }) rfl (fun K hK => ?_) ?_
              · go_simp
                refine hK _ _ (hSB _ (bA _)) ?_
                clear hK K
                try simp only [Act.put, List.setIfInBounds_toArray, List.set_cons_zero, List.set_cons_succ]
                refine anyL_ready (rs := [3, 9]) (by kernel_rfl) (by simp) ?_
                refine AllL.cons (o := { dst := some 68, op := Go.Op.call { callee := Go.Callee.builtin Go.Builtin.append, args := #[Go.Operand.tmp 65, Go.Operand.tmp 67], argTypes := #[24, 24] }, type := 24, pos := "ref.go:160", after := #[{ on := 0, ground := Go.Ground.data }, { on := 2, ground := Go.Ground.data }], guard := none }) rfl (fun K hK => ?_) ?_
                · go_simp
                  refine hK _ _ (hSB _ (bA _)) ?_
                  clear hK K
                  try simp only [Act.put, List.setIfInBounds_toArray, List.set_cons_zero, List.set_cons_succ]
                  refine anyL_ready (rs := [9]) (by kernel_rfl) (by simp) ?_
                  refine AllL.cons (o := { dst := some 74, op := Go.Op.buildSlice 24 1 #[(0, Go.Operand.tmp 73)], type := 24, pos := "ref.go:160", after := #[{ on := 8, ground := Go.Ground.data }], guard := none }) rfl (fun K hK => ?_) ?_
                  · go_simp
                    refine hK _ _ (hSB _ (bAA _ _)) ?_
                    clear hK K
                    try simp only [Act.put, List.setIfInBounds_toArray, List.set_cons_zero, List.set_cons_succ]
                    refine anyL_ready (rs := [10]) (by kernel_rfl) (by simp) ?_
                    refine AllL.cons (o := { dst := some 75, op := Go.Op.call { callee := Go.Callee.builtin Go.Builtin.append, args := #[Go.Operand.tmp 68, Go.Operand.tmp 74], argTypes := #[24, 24] }, type := 24, pos := "ref.go:160", after := #[{ on := 3, ground := Go.Ground.data }, { on := 9, ground := Go.Ground.data }, { on := 3, ground := Go.Ground.chain }], guard := none }) rfl (fun K hK => ?_) ?_
                    · refine mst_one rfl (.tmp 68) (.tmp 74) rfl wq.heap.size (wq.heap.size + 1) 0 [] (.slice (some ⟨wq.heap.size, 0, none⟩) 0 0) (.string kx) (.int .i64 v.kind) (.bool v.b) (.int .i64 v.n) (.string v.s) (.slice vp v.items.length vc) (.slice vq v.mems.length vd) (.int .i64 v.at') (.int .i64 (st : Int)) rfl rfl hE1K blkB hk1 (by decide) ((bAA _ _)).size ?_
                      intro g5 cap5 w5 own5 grow5
                      try go_simp
                      have b5 := jgb (bAA _ _) grow5 ((bAA _ _)).size (Nat.le_refl _)
                      refine hK _ _ (hSB _ b5) ?_
                      clear hK K
                      try simp only [Act.put, List.setIfInBounds_toArray, List.set_cons_zero, List.set_cons_succ]
                      refine anyL_takeD (i := 11) (oi := { dst := some 76, op := Go.Op.fieldAddr 26 (Go.Operand.tmp 7) 5, type := 0, pos := "ref.go:160", after := #[{ on := 0, ground := Go.Ground.phase }, { on := 1, ground := Go.Ground.phase }, { on := 2, ground := Go.Ground.phase }, { on := 3, ground := Go.Ground.phase }, { on := 4, ground := Go.Ground.phase }, { on := 5, ground := Go.Ground.phase }, { on := 6, ground := Go.Ground.phase }, { on := 7, ground := Go.Ground.phase }, { on := 8, ground := Go.Ground.phase }, { on := 9, ground := Go.Ground.phase }, { on := 10, ground := Go.Ground.phase }], guard := none }) (v := ?_) rfl (by decide) (by kernel_rfl) (by kernel_rfl) (by kernel_rfl) (fun _ _ _ h => h) (Or.inl ⟨by rfl, ?_⟩) ?_
                      rotate_left
                      · intro wz _
                        go_simp
                        (try with_reducible rfl)
                      try simp only [Act.put, List.setIfInBounds_toArray, List.set_cons_zero, List.set_cons_succ]
                      refine anyL_ready (rs := [12]) (by kernel_rfl) (by simp) ?_
                      refine AllL.last (o := { dst := none, op := Go.Op.store 24 (Go.Operand.tmp 76) (Go.Operand.tmp 75), type := 0, pos := "ref.go:160", after := #[{ on := 11, ground := Go.Ground.data }, { on := 10, ground := Go.Ground.data }, { on := 10, ground := Go.Ground.chain }, { on := 0, ground := Go.Ground.phase }, { on := 1, ground := Go.Ground.phase }, { on := 2, ground := Go.Ground.phase }, { on := 3, ground := Go.Ground.phase }, { on := 4, ground := Go.Ground.phase }, { on := 5, ground := Go.Ground.phase }, { on := 6, ground := Go.Ground.phase }, { on := 7, ground := Go.Ground.phase }, { on := 8, ground := Go.Ground.phase }, { on := 9, ground := Go.Ground.phase }, { on := 10, ground := Go.Ground.phase }], guard := none }) rfl (by decide) (fun K hK => ?_)
                      have s5 := (hBox.more b5).cell 5
                      have f5 := (hBox.more b5).fr 5
                      simp only [List.getElem?_toArray, List.getElem?_cons_succ, List.getElem?_cons_zero] at s5
                      go_simp
                      refine hK _ _ ?_
                      clear hK K s5 f5
                      try simp only [Act.put, List.setIfInBounds_toArray, List.set_cons_zero, List.set_cons_succ]
                      refine anyL_done (by kernel_rfl) ?_ _
                      have hpu := HPU.out w5 g5 cap5 b5 own5
                      have HPX := Lib.hid hpu
                      clear hpu
                      go_wp2
                      go_meet
                      exact ⟨_, _, _, HPX.out.1, HPX.out.2 _ _ _ HKB.out (by omega)⟩
                    exact AllL.nil
                  exact AllL.nil
                refine AllL.cons (o := { dst := some 74, op := Go.Op.buildSlice 24 1 #[(0, Go.Operand.tmp 73)], type := 24, pos := "ref.go:160", after := #[{ on := 8, ground := Go.Ground.data }], guard := none }) rfl (fun K hK => ?_) ?_
                · go_simp
                  refine hK _ _ (hSB _ (bAA _ _)) ?_
                  clear hK K
                  try simp only [Act.put, List.setIfInBounds_toArray, List.set_cons_zero, List.set_cons_succ]
                  refine anyL_ready (rs := [3]) (by kernel_rfl) (by simp) ?_
                  refine AllL.cons (o := { dst := some 68, op := Go.Op.call { callee := Go.Callee.builtin Go.Builtin.append, args := #[Go.Operand.tmp 65, Go.Operand.tmp 67], argTypes := #[24, 24] }, type := 24, pos := "ref.go:160", after := #[{ on := 0, ground := Go.Ground.data }, { on := 2, ground := Go.Ground.data }], guard := none }) rfl (fun K hK => ?_) ?_
                  · go_simp
                    refine hK _ _ (hSB _ (bAA _ _)) ?_
                    clear hK K
                    try simp only [Act.put, List.setIfInBounds_toArray, List.set_cons_zero, List.set_cons_succ]
                    refine anyL_ready (rs := [10]) (by kernel_rfl) (by simp) ?_
                    refine AllL.cons (o := { dst := some 75, op := Go.Op.call { callee := Go.Callee.builtin Go.Builtin.append, args := #[Go.Operand.tmp 68, Go.Operand.tmp 74], argTypes := #[24, 24] }, type := 24, pos := "ref.go:160", after := #[{ on := 3, ground := Go.Ground.data }, { on := 9, ground := Go.Ground.data }, { on := 3, ground := Go.Ground.chain }], guard := none }) rfl (fun K hK => ?_) ?_
                    · refine mst_one rfl (.tmp 68) (.tmp 74) rfl wq.heap.size (wq.heap.size + 1) 0 [] (.slice (some ⟨wq.heap.size, 0, none⟩) 0 0) (.string kx) (.int .i64 v.kind) (.bool v.b) (.int .i64 v.n) (.string v.s) (.slice vp v.items.length vc) (.slice vq v.mems.length vd) (.int .i64 v.at') (.int .i64 (st : Int)) rfl rfl hE1K blkB hk1 (by decide) ((bAA _ _)).size ?_
                      intro g5 cap5 w5 own5 grow5
                      try go_simp
                      have b5 := jgb (bAA _ _) grow5 ((bAA _ _)).size (Nat.le_refl _)
                      refine hK _ _ (hSB _ b5) ?_
                      clear hK K
                      try simp only [Act.put, List.setIfInBounds_toArray, List.set_cons_zero, List.set_cons_succ]
                      refine anyL_takeD (i := 11) (oi := { dst := some 76, op := Go.Op.fieldAddr 26 (Go.Operand.tmp 7) 5, type := 0, pos := "ref.go:160", after := #[{ on := 0, ground := Go.Ground.phase }, { on := 1, ground := Go.Ground.phase }, { on := 2, ground := Go.Ground.phase }, { on := 3, ground := Go.Ground.phase }, { on := 4, ground := Go.Ground.phase }, { on := 5, ground := Go.Ground.phase }, { on := 6, ground := Go.Ground.phase }, { on := 7, ground := Go.Ground.phase }, { on := 8, ground := Go.Ground.phase }, { on := 9, ground := Go.Ground.phase }, { on := 10, ground := Go.Ground.phase }], guard := none }) (v := ?_) rfl (by decide) (by kernel_rfl) (by kernel_rfl) (by kernel_rfl) (fun _ _ _ h => h) (Or.inl ⟨by rfl, ?_⟩) ?_
                      rotate_left
                      · intro wz _
                        go_simp
                        (try with_reducible rfl)
                      try simp only [Act.put, List.setIfInBounds_toArray, List.set_cons_zero, List.set_cons_succ]
                      refine anyL_ready (rs := [12]) (by kernel_rfl) (by simp) ?_
                      refine AllL.last (o := { dst := none, op := Go.Op.store 24 (Go.Operand.tmp 76) (Go.Operand.tmp 75), type := 0, pos := "ref.go:160", after := #[{ on := 11, ground := Go.Ground.data }, { on := 10, ground := Go.Ground.data }, { on := 10, ground := Go.Ground.chain }, { on := 0, ground := Go.Ground.phase }, { on := 1, ground := Go.Ground.phase }, { on := 2, ground := Go.Ground.phase }, { on := 3, ground := Go.Ground.phase }, { on := 4, ground := Go.Ground.phase }, { on := 5, ground := Go.Ground.phase }, { on := 6, ground := Go.Ground.phase }, { on := 7, ground := Go.Ground.phase }, { on := 8, ground := Go.Ground.phase }, { on := 9, ground := Go.Ground.phase }, { on := 10, ground := Go.Ground.phase }], guard := none }) rfl (by decide) (fun K hK => ?_)
                      have s5 := (hBox.more b5).cell 5
                      have f5 := (hBox.more b5).fr 5
                      simp only [List.getElem?_toArray, List.getElem?_cons_succ, List.getElem?_cons_zero] at s5
                      go_simp
                      refine hK _ _ ?_
                      clear hK K s5 f5
                      try simp only [Act.put, List.setIfInBounds_toArray, List.set_cons_zero, List.set_cons_succ]
                      refine anyL_done (by kernel_rfl) ?_ _
                      have hpu := HPU.out w5 g5 cap5 b5 own5
                      have HPX := Lib.hid hpu
                      clear hpu
                      go_wp2
                      go_meet
                      exact ⟨_, _, _, HPX.out.1, HPX.out.2 _ _ _ HKB.out (by omega)⟩
                    exact AllL.nil
                  exact AllL.nil
                exact AllL.nil
              refine AllL.cons (o := { dst := some 74, op := Go.Op.buildSlice 24 1 #[(0, Go.Operand.tmp 73)], type := 24, pos := "ref.go:160", after := #[{ on := 8, ground := Go.Ground.data }], guard := none }) rfl (fun K hK => ?_) ?_
              · go_simp
                refine hK _ _ (hSB _ (bA _)) ?_
                clear hK K
                try simp only [Act.put, List.setIfInBounds_toArray, List.set_cons_zero, List.set_cons_succ]
                refine anyL_ready (rs := [0]) (by kernel_rfl) (by simp) ?_
                refine AllL.cons (o := { dst := some 65, op := Go.Op.buildSlice 24 0 #[], type := 24, pos := "ref.go:160", after := #[], guard := none }) rfl (fun K hK => ?_) ?_
                · go_simp
                  refine hK _ _ (hSB _ (bAA _ _)) ?_
                  clear hK K
                  try simp only [Act.put, List.setIfInBounds_toArray, List.set_cons_zero, List.set_cons_succ]
                  refine anyL_ready (rs := [3]) (by kernel_rfl) (by simp) ?_
                  refine AllL.cons (o := { dst := some 68, op := Go.Op.call { callee := Go.Callee.builtin Go.Builtin.append, args := #[Go.Operand.tmp 65, Go.Operand.tmp 67], argTypes := #[24, 24] }, type := 24, pos := "ref.go:160", after := #[{ on := 0, ground := Go.Ground.data }, { on := 2, ground := Go.Ground.data }], guard := none }) rfl (fun K hK => ?_) ?_
                  · go_simp
                    refine hK _ _ (hSB _ (bAA _ _)) ?_
                    clear hK K
                    try simp only [Act.put, List.setIfInBounds_toArray, List.set_cons_zero, List.set_cons_succ]
                    refine anyL_ready (rs := [10]) (by kernel_rfl) (by simp) ?_
                    refine AllL.cons (o := { dst := some 75, op := Go.Op.call { callee := Go.Callee.builtin Go.Builtin.append, args := #[Go.Operand.tmp 68, Go.Operand.tmp 74], argTypes := #[24, 24] }, type := 24, pos := "ref.go:160", after := #[{ on := 3, ground := Go.Ground.data }, { on := 9, ground := Go.Ground.data }, { on := 3, ground := Go.Ground.chain }], guard := none }) rfl (fun K hK => ?_) ?_
                    · refine mst_one rfl (.tmp 68) (.tmp 74) rfl wq.heap.size wq.heap.size 0 [] (.slice (some ⟨(wq.heap.size + 1), 0, none⟩) 0 0) (.string kx) (.int .i64 v.kind) (.bool v.b) (.int .i64 v.n) (.string v.s) (.slice vp v.items.length vc) (.slice vq v.mems.length vd) (.int .i64 v.at') (.int .i64 (st : Int)) rfl rfl hE2 blkC hk1 (by decide) ((bAA _ _)).size ?_
                      intro g5 cap5 w5 own5 grow5
                      try go_simp
                      have b5 := jgb (bAA _ _) grow5 ((bAA _ _)).size (Nat.le_succ _)
                      refine hK _ _ (hSB _ b5) ?_
                      clear hK K
                      try simp only [Act.put, List.setIfInBounds_toArray, List.set_cons_zero, List.set_cons_succ]
                      refine anyL_takeD (i := 11) (oi := { dst := some 76, op := Go.Op.fieldAddr 26 (Go.Operand.tmp 7) 5, type := 0, pos := "ref.go:160", after := #[{ on := 0, ground := Go.Ground.phase }, { on := 1, ground := Go.Ground.phase }, { on := 2, ground := Go.Ground.phase }, { on := 3, ground := Go.Ground.phase }, { on := 4, ground := Go.Ground.phase }, { on := 5, ground := Go.Ground.phase }, { on := 6, ground := Go.Ground.phase }, { on := 7, ground := Go.Ground.phase }, { on := 8, ground := Go.Ground.phase }, { on := 9, ground := Go.Ground.phase }, { on := 10, ground := Go.Ground.phase }], guard := none }) (v := ?_) rfl (by decide) (by kernel_rfl) (by kernel_rfl) (by kernel_rfl) (fun _ _ _ h => h) (Or.inl ⟨by rfl, ?_⟩) ?_
                      rotate_left
                      · intro wz _
                        go_simp
                        (try with_reducible rfl)
                      try simp only [Act.put, List.setIfInBounds_toArray, List.set_cons_zero, List.set_cons_succ]
                      refine anyL_ready (rs := [12]) (by kernel_rfl) (by simp) ?_
                      refine AllL.last (o := { dst := none, op := Go.Op.store 24 (Go.Operand.tmp 76) (Go.Operand.tmp 75), type := 0, pos := "ref.go:160", after := #[{ on := 11, ground := Go.Ground.data }, { on := 10, ground := Go.Ground.data }, { on := 10, ground := Go.Ground.chain }, { on := 0, ground := Go.Ground.phase }, { on := 1, ground := Go.Ground.phase }, { on := 2, ground := Go.Ground.phase }, { on := 3, ground := Go.Ground.phase }, { on := 4, ground := Go.Ground.phase }, { on := 5, ground := Go.Ground.phase }, { on := 6, ground := Go.Ground.phase }, { on := 7, ground := Go.Ground.phase }, { on := 8, ground := Go.Ground.phase }, { on := 9, ground := Go.Ground.phase }, { on := 10, ground := Go.Ground.phase }], guard := none }) rfl (by decide) (fun K hK => ?_)
                      have s5 := (hBox.more b5).cell 5
                      have f5 := (hBox.more b5).fr 5
                      simp only [List.getElem?_toArray, List.getElem?_cons_succ, List.getElem?_cons_zero] at s5
                      go_simp
                      refine hK _ _ ?_
                      clear hK K s5 f5
                      try simp only [Act.put, List.setIfInBounds_toArray, List.set_cons_zero, List.set_cons_succ]
                      refine anyL_done (by kernel_rfl) ?_ _
                      have hpu := HPU.out w5 g5 cap5 b5 own5
                      have HPX := Lib.hid hpu
                      clear hpu
                      go_wp2
                      go_meet
                      exact ⟨_, _, _, HPX.out.1, HPX.out.2 _ _ _ HKB.out (by omega)⟩
                    exact AllL.nil
                  exact AllL.nil
                exact AllL.nil
              exact AllL.nil
            · obtain ⟨g, cap, hv, hg, hgz⟩ := HLq.out.row.form (List.length_pos_iff.2 hk0)
              injection hv with hv1 hv2 hv3
              subst hv1
              replace hv3 := hv3.symm
              subst hv3
              have own0 := HLq.out.row
              obtain ⟨n, hn⟩ : ∃ n, n = l.length := ⟨_, rfl⟩
              have hn0 : 0 < n := by rw [hn]; exact List.length_pos_iff.2 hk0
              have hn9 : n ≤ 1000000000 := by omega
              have hxl : xs.length = n * 9 := by rw [hn]; exact own0.1
              have hx1 : ∀ y ∈ xs, y.oneCell' = true := mrow_one _ _ HLq.out.vr
              rw [← hn] at own0 hSB hBox
              have HNN := Lib.hid hn
              clear hn hk0
              have bR : Below wq.heap.size wq wq := Below.refl _ _
              have bA : ∀ o, Below wq.heap.size wq (wq.alloc o).drew := fun o => (bR.alloc bR.size o).drew
              have bAA : ∀ o o', Below wq.heap.size wq ((wq.alloc o).alloc o').drew := fun o o' => ((bR.alloc bR.size o).alloc (bR.alloc bR.size o).size o').drew
              have hS0 := hSB _ bR.drew
              have hE1 := (mst_made wq wq.heap.size (Nat.le_refl _)).drew
              have hE1K := ((mst_made wq wq.heap.size (Nat.le_refl _)).alloc (.cells #[.string kx, .int .i64 v.kind, .bool v.b, .int .i64 v.n, .string v.s, .slice vp v.items.length vc, .slice vq v.mems.length vd, .int .i64 v.at', .int .i64 (st : Int)] 44)).drew
              have hE2 : ((wq.alloc (.cells #[.string kx, .int .i64 v.kind, .bool v.b, .int .i64 v.n, .string v.s, .slice vp v.items.length vc, .slice vq v.mems.length vd, .int .i64 v.at', .int .i64 (st : Int)] 44)).alloc (.cells #[] 44)).drew.ownsRow wq.heap.size 44 9 (.slice (some ⟨wq.heap.size + 1, 0, none⟩) 0 0) 0 [] := by
                have := (mst_made (wq.alloc (.cells #[.string kx, .int .i64 v.kind, .bool v.b, .int .i64 v.n, .string v.s, .slice vp v.items.length vc, .slice vq v.mems.length vd, .int .i64 v.at', .int .i64 (st : Int)] 44)) wq.heap.size (bR.alloc bR.size _).size).drew
                rwa [show (wq.alloc (.cells #[.string kx, .int .i64 v.kind, .bool v.b, .int .i64 v.n, .string v.s, .slice vp v.items.length vc, .slice vq v.mems.length vd, .int .i64 v.at', .int .i64 (st : Int)] 44)).heap.size = wq.heap.size + 1 by simp] at this
              have blkB : ((wq.alloc (.cells #[] 44)).alloc (.cells #[.string kx, .int .i64 v.kind, .bool v.b, .int .i64 v.n, .string v.s, .slice vp v.items.length vc, .slice vq v.mems.length vd, .int .i64 v.at', .int .i64 (st : Int)] 44)).drew.heap[wq.heap.size + 1]? = some (.cells #[.string kx, .int .i64 v.kind, .bool v.b, .int .i64 v.n, .string v.s, .slice vp v.items.length vc, .slice vq v.mems.length vd, .int .i64 v.at', .int .i64 (st : Int)] 44 (0, 0)) := by
                have := heap_alloc_new (wq.alloc (.cells #[] 44)) (.cells #[.string kx, .int .i64 v.kind, .bool v.b, .int .i64 v.n, .string v.s, .slice vp v.items.length vc, .slice vq v.mems.length vd, .int .i64 v.at', .int .i64 (st : Int)] 44)
                rwa [show (wq.alloc (.cells #[] 44)).heap.size = wq.heap.size + 1 by simp] at this
              have blkC : ((wq.alloc (.cells #[.string kx, .int .i64 v.kind, .bool v.b, .int .i64 v.n, .string v.s, .slice vp v.items.length vc, .slice vq v.mems.length vd, .int .i64 v.at', .int .i64 (st : Int)] 44)).alloc (.cells #[] 44)).drew.heap[wq.heap.size]? = some (.cells #[.string kx, .int .i64 v.kind, .bool v.b, .int .i64 v.n, .string v.s, .slice vp v.items.length vc, .slice vq v.mems.length vd, .int .i64 v.at', .int .i64 (st : Int)] 44 (0, 0)) := (heap_alloc_old (wq.alloc (.cells #[.string kx, .int .i64 v.kind, .bool v.b, .int .i64 v.n, .string v.s, .slice vp v.items.length vc, .slice vq v.mems.length vd, .int .i64 v.at', .int .i64 (st : Int)] 44)) (.cells #[] 44) (by simp)).trans (heap_alloc_new wq (.cells #[.string kx, .int .i64 v.kind, .bool v.b, .int .i64 v.n, .string v.s, .slice vp v.items.length vc, .slice vq v.mems.length vd, .int .i64 v.at', .int .i64 (st : Int)] 44))
              refine wp_region_late (S := fun w' => NJ (w.heap.size + 1) 5 w6.heap.size (.slice (some ⟨g, 0, none⟩) n cap) (.int .i64 v.kind) (.bool v.b) (.int .i64 v.n) (.string v.s) (.slice vp v.items.length vc) (.slice vq v.mems.length vd) (.int .i64 v.at') w') (D := [11, 12]) (by kernel_rfl) ?_
              refine anyL_take (i := 1) (oi := { dst := some 66, op := Go.Op.fieldAddr 26 (Go.Operand.tmp 7) 5, type := 0, pos := "ref.go:160", after := #[], guard := none }) (v := ?_) rfl (by decide) (by kernel_rfl) (by kernel_rfl) (by kernel_rfl) (by kernel_rfl) (fun _ _ _ h => h) (Or.inl ⟨by rfl, ?_⟩) hS0 ?_
              rotate_left
              · intro wz hSz
                obtain ⟨z0, z1, z2, z3, z4, z5, z6, z7⟩ := hSz
                go_simp
                (try with_reducible rfl)
              try simp only [Act.put, List.setIfInBounds_toArray, List.set_cons_zero, List.set_cons_succ]
              refine anyL_take (i := 2) (oi := { dst := some 67, op := Go.Op.load 24 (Go.Operand.tmp 66), type := 24, pos := "ref.go:160", after := #[{ on := 1, ground := Go.Ground.data }], guard := none }) (v := ?_) rfl (by decide) (by kernel_rfl) (by kernel_rfl) (by kernel_rfl) (by kernel_rfl) (fun _ _ _ h => h) (Or.inl ⟨by rfl, ?_⟩) hS0 ?_
              rotate_left
              · intro wz hSz
                obtain ⟨z0, z1, z2, z3, z4, z5, z6, z7⟩ := hSz
                go_simp
                (try with_reducible rfl)
              try simp only [Act.put, List.setIfInBounds_toArray, List.set_cons_zero, List.set_cons_succ]
              refine anyL_take (i := 4) (oi := { dst := some 69, op := Go.Op.move (Go.Operand.tmp 11), type := 9, pos := "ref.go:160", after := #[], guard := none }) (v := ?_) rfl (by decide) (by kernel_rfl) (by kernel_rfl) (by kernel_rfl) (by kernel_rfl) (fun _ _ _ h => h) (Or.inl ⟨by rfl, ?_⟩) hS0 ?_
              rotate_left
              · intro wz hSz
                obtain ⟨z0, z1, z2, z3, z4, z5, z6, z7⟩ := hSz
                go_simp
                (try with_reducible rfl)
              try simp only [Act.put, List.setIfInBounds_toArray, List.set_cons_zero, List.set_cons_succ]
              refine anyL_take (i := 5) (oi := { dst := some 70, op := Go.Op.fieldAddr 54 (Go.Operand.tmp 13) 0, type := 0, pos := "ref.go:160", after := #[], guard := none }) (v := ?_) rfl (by decide) (by kernel_rfl) (by kernel_rfl) (by kernel_rfl) (by kernel_rfl) (fun _ _ _ h => h) (Or.inl ⟨by rfl, ?_⟩) hS0 ?_
              rotate_left
              · intro wz hSz
                obtain ⟨z0, z1, z2, z3, z4, z5, z6, z7⟩ := hSz
                go_simp
                (try with_reducible rfl)
              try simp only [Act.put, List.setIfInBounds_toArray, List.set_cons_zero, List.set_cons_succ]
              refine anyL_take (i := 6) (oi := { dst := some 71, op := Go.Op.load 26 (Go.Operand.tmp 70), type := 26, pos := "ref.go:160", after := #[{ on := 5, ground := Go.Ground.data }], guard := none }) (v := ?_) rfl (by decide) (by kernel_rfl) (by kernel_rfl) (by kernel_rfl) (by kernel_rfl) (fun _ _ _ h => h) (Or.inl ⟨by rfl, ?_⟩) hS0 ?_
              rotate_left
              · intro wz hSz
                obtain ⟨z0, z1, z2, z3, z4, z5, z6, z7⟩ := hSz
                go_simp
                (try with_reducible rfl)
              try simp only [Act.put, List.setIfInBounds_toArray, List.set_cons_zero, List.set_cons_succ]
              refine anyL_take (i := 7) (oi := { dst := some 72, op := Go.Op.move (Go.Operand.tmp 10), type := 3, pos := "ref.go:160", after := #[], guard := none }) (v := ?_) rfl (by decide) (by kernel_rfl) (by kernel_rfl) (by kernel_rfl) (by kernel_rfl) (fun _ _ _ h => h) (Or.inl ⟨by rfl, ?_⟩) hS0 ?_
              rotate_left
              · intro wz hSz
                obtain ⟨z0, z1, z2, z3, z4, z5, z6, z7⟩ := hSz
                go_simp
                (try with_reducible rfl)
              try simp only [Act.put, List.setIfInBounds_toArray, List.set_cons_zero, List.set_cons_succ]
              refine anyL_take (i := 8) (oi := { dst := some 73, op := Go.Op.build 44 #[(0, Go.Operand.tmp 69), (1, Go.Operand.tmp 71), (2, Go.Operand.tmp 72)], type := 44, pos := "ref.go:160", after := #[{ on := 4, ground := Go.Ground.data }, { on := 6, ground := Go.Ground.data }, { on := 7, ground := Go.Ground.data }], guard := none }) (v := ?_) rfl (by decide) (by kernel_rfl) (by kernel_rfl) (by kernel_rfl) (by kernel_rfl) (fun _ _ _ h => h) (Or.inl ⟨by rfl, ?_⟩) hS0 ?_
              rotate_left
              · intro wz hSz
                obtain ⟨z0, z1, z2, z3, z4, z5, z6, z7⟩ := hSz
                go_simp
                (try with_reducible rfl)
              try simp only [Act.put, List.setIfInBounds_toArray, List.set_cons_zero, List.set_cons_succ]
              refine anyL_ready (rs := [0, 9]) (by kernel_rfl) (by simp) ?_
              refine AllL.cons (o := { dst := some 65, op := Go.Op.buildSlice 24 0 #[], type := 24, pos := "ref.go:160", after := #[], guard := none }) rfl (fun K hK => ?_) ?_
              · go_simp
                refine hK _ _ (hSB _ (bA _)) ?_
                clear hK K
                try simp only [Act.put, List.setIfInBounds_toArray, List.set_cons_zero, List.set_cons_succ]
                refine anyL_ready (rs := [3, 9]) (by kernel_rfl) (by simp) ?_
                refine AllL.cons (o := { dst := some 68, op := Go.Op.call { callee := Go.Callee.builtin Go.Builtin.append, args := #[Go.Operand.tmp 65, Go.Operand.tmp 67], argTypes := #[24, 24] }, type := 24, pos := "ref.go:160", after := #[{ on := 0, ground := Go.Ground.data }, { on := 2, ground := Go.Ground.data }], guard := none }) rfl (fun K hK => ?_) ?_
                · refine mst_copy rfl (.tmp 65) (.tmp 67) rfl wq.heap.size wq.heap.size g n cap xs rfl rfl hE1 hxl (mst_news own0 (bA _)) hx1 hn0 hn9 ((bA _)).size ?_
                  intro g1 cap1 w2 own1 grow1 hg1
                  try go_simp
                  have b2 := jgb (bA _) grow1 ((bA _)).size (Nat.le_refl _)
                  refine hK _ _ (hSB _ b2) ?_
                  clear hK K
                  try simp only [Act.put, List.setIfInBounds_toArray, List.set_cons_zero, List.set_cons_succ]
                  refine anyL_ready (rs := [9]) (by kernel_rfl) (by simp) ?_
                  refine AllL.cons (o := { dst := some 74, op := Go.Op.buildSlice 24 1 #[(0, Go.Operand.tmp 73)], type := 24, pos := "ref.go:160", after := #[{ on := 8, ground := Go.Ground.data }], guard := none }) rfl (fun K hK => ?_) ?_
                  · go_simp
                    refine hK _ _ (hSB _ (b2.alloc b2.size _)) ?_
                    clear hK K
                    try simp only [Act.put, List.setIfInBounds_toArray, List.set_cons_zero, List.set_cons_succ]
                    refine anyL_ready (rs := [10]) (by kernel_rfl) (by simp) ?_
                    refine AllL.cons (o := { dst := some 75, op := Go.Op.call { callee := Go.Callee.builtin Go.Builtin.append, args := #[Go.Operand.tmp 68, Go.Operand.tmp 74], argTypes := #[24, 24] }, type := 24, pos := "ref.go:160", after := #[{ on := 3, ground := Go.Ground.data }, { on := 9, ground := Go.Ground.data }, { on := 3, ground := Go.Ground.chain }], guard := none }) rfl (fun K hK => ?_) ?_
                    · refine mst_one rfl (.tmp 68) (.tmp 74) rfl wq.heap.size w2.heap.size n xs (.slice (some ⟨g1, 0, none⟩) n cap1) (.string kx) (.int .i64 v.kind) (.bool v.b) (.int .i64 v.n) (.string v.s) (.slice vp v.items.length vc) (.slice vq v.mems.length vd) (.int .i64 v.at') (.int .i64 (st : Int)) rfl rfl (own1.alloc _) (heap_alloc_new w2 _) hk1 hn9 ((b2.alloc b2.size _)).size ?_
                      intro g5 cap5 w5 own5 grow5
                      try go_simp
                      have b5 := jgb (b2.alloc b2.size _) grow5 ((b2.alloc b2.size _)).size hg1
                      refine hK _ _ (hSB _ b5) ?_
                      clear hK K
                      try simp only [Act.put, List.setIfInBounds_toArray, List.set_cons_zero, List.set_cons_succ]
                      refine anyL_takeD (i := 11) (oi := { dst := some 76, op := Go.Op.fieldAddr 26 (Go.Operand.tmp 7) 5, type := 0, pos := "ref.go:160", after := #[{ on := 0, ground := Go.Ground.phase }, { on := 1, ground := Go.Ground.phase }, { on := 2, ground := Go.Ground.phase }, { on := 3, ground := Go.Ground.phase }, { on := 4, ground := Go.Ground.phase }, { on := 5, ground := Go.Ground.phase }, { on := 6, ground := Go.Ground.phase }, { on := 7, ground := Go.Ground.phase }, { on := 8, ground := Go.Ground.phase }, { on := 9, ground := Go.Ground.phase }, { on := 10, ground := Go.Ground.phase }], guard := none }) (v := ?_) rfl (by decide) (by kernel_rfl) (by kernel_rfl) (by kernel_rfl) (fun _ _ _ h => h) (Or.inl ⟨by rfl, ?_⟩) ?_
                      rotate_left
                      · intro wz _
                        go_simp
                        (try with_reducible rfl)
                      try simp only [Act.put, List.setIfInBounds_toArray, List.set_cons_zero, List.set_cons_succ]
                      refine anyL_ready (rs := [12]) (by kernel_rfl) (by simp) ?_
                      refine AllL.last (o := { dst := none, op := Go.Op.store 24 (Go.Operand.tmp 76) (Go.Operand.tmp 75), type := 0, pos := "ref.go:160", after := #[{ on := 11, ground := Go.Ground.data }, { on := 10, ground := Go.Ground.data }, { on := 10, ground := Go.Ground.chain }, { on := 0, ground := Go.Ground.phase }, { on := 1, ground := Go.Ground.phase }, { on := 2, ground := Go.Ground.phase }, { on := 3, ground := Go.Ground.phase }, { on := 4, ground := Go.Ground.phase }, { on := 5, ground := Go.Ground.phase }, { on := 6, ground := Go.Ground.phase }, { on := 7, ground := Go.Ground.phase }, { on := 8, ground := Go.Ground.phase }, { on := 9, ground := Go.Ground.phase }, { on := 10, ground := Go.Ground.phase }], guard := none }) rfl (by decide) (fun K hK => ?_)
                      have s5 := (hBox.more b5).cell 5
                      have f5 := (hBox.more b5).fr 5
                      simp only [List.getElem?_toArray, List.getElem?_cons_succ, List.getElem?_cons_zero] at s5
                      go_simp
                      refine hK _ _ ?_
                      clear hK K s5 f5
                      try simp only [Act.put, List.setIfInBounds_toArray, List.set_cons_zero, List.set_cons_succ]
                      refine anyL_done (by kernel_rfl) ?_ _
                      have hpu := HPU.out w5 g5 cap5 b5 (by rw [← HNN.out]; exact own5)
                      rw [← HNN.out] at hpu
                      have HPX := Lib.hid hpu
                      clear hpu
                      go_wp2
                      go_meet
                      exact ⟨_, _, _, HPX.out.1, HPX.out.2 _ _ _ HKB.out (by omega)⟩
                    exact AllL.nil
                  exact AllL.nil
                refine AllL.cons (o := { dst := some 74, op := Go.Op.buildSlice 24 1 #[(0, Go.Operand.tmp 73)], type := 24, pos := "ref.go:160", after := #[{ on := 8, ground := Go.Ground.data }], guard := none }) rfl (fun K hK => ?_) ?_
                · go_simp
                  refine hK _ _ (hSB _ (bAA _ _)) ?_
                  clear hK K
                  try simp only [Act.put, List.setIfInBounds_toArray, List.set_cons_zero, List.set_cons_succ]
                  refine anyL_ready (rs := [3]) (by kernel_rfl) (by simp) ?_
                  refine AllL.cons (o := { dst := some 68, op := Go.Op.call { callee := Go.Callee.builtin Go.Builtin.append, args := #[Go.Operand.tmp 65, Go.Operand.tmp 67], argTypes := #[24, 24] }, type := 24, pos := "ref.go:160", after := #[{ on := 0, ground := Go.Ground.data }, { on := 2, ground := Go.Ground.data }], guard := none }) rfl (fun K hK => ?_) ?_
                  · refine mst_copy rfl (.tmp 65) (.tmp 67) rfl wq.heap.size wq.heap.size g n cap xs rfl rfl hE1K hxl (mst_news own0 (bAA _ _)) hx1 hn0 hn9 ((bAA _ _)).size ?_
                    intro g1 cap1 w2 own1 grow1 hg1
                    try go_simp
                    have b2 := jgb (bAA _ _) grow1 ((bAA _ _)).size (Nat.le_refl _)
                    refine hK _ _ (hSB _ b2) ?_
                    clear hK K
                    try simp only [Act.put, List.setIfInBounds_toArray, List.set_cons_zero, List.set_cons_succ]
                    refine anyL_ready (rs := [10]) (by kernel_rfl) (by simp) ?_
                    refine AllL.cons (o := { dst := some 75, op := Go.Op.call { callee := Go.Callee.builtin Go.Builtin.append, args := #[Go.Operand.tmp 68, Go.Operand.tmp 74], argTypes := #[24, 24] }, type := 24, pos := "ref.go:160", after := #[{ on := 3, ground := Go.Ground.data }, { on := 9, ground := Go.Ground.data }, { on := 3, ground := Go.Ground.chain }], guard := none }) rfl (fun K hK => ?_) ?_
                    · refine mst_one rfl (.tmp 68) (.tmp 74) rfl wq.heap.size (wq.heap.size + 1) n xs (.slice (some ⟨g1, 0, none⟩) n cap1) (.string kx) (.int .i64 v.kind) (.bool v.b) (.int .i64 v.n) (.string v.s) (.slice vp v.items.length vc) (.slice vq v.mems.length vd) (.int .i64 v.at') (.int .i64 (st : Int)) rfl rfl own1 (jheap_grown grow1 (by omega) blkB) hk1 hn9 (b2).size ?_
                      intro g5 cap5 w5 own5 grow5
                      try go_simp
                      have b5 := jgb b2 grow5 (b2).size hg1
                      refine hK _ _ (hSB _ b5) ?_
                      clear hK K
                      try simp only [Act.put, List.setIfInBounds_toArray, List.set_cons_zero, List.set_cons_succ]
                      refine anyL_takeD (i := 11) (oi := { dst := some 76, op := Go.Op.fieldAddr 26 (Go.Operand.tmp 7) 5, type := 0, pos := "ref.go:160", after := #[{ on := 0, ground := Go.Ground.phase }, { on := 1, ground := Go.Ground.phase }, { on := 2, ground := Go.Ground.phase }, { on := 3, ground := Go.Ground.phase }, { on := 4, ground := Go.Ground.phase }, { on := 5, ground := Go.Ground.phase }, { on := 6, ground := Go.Ground.phase }, { on := 7, ground := Go.Ground.phase }, { on := 8, ground := Go.Ground.phase }, { on := 9, ground := Go.Ground.phase }, { on := 10, ground := Go.Ground.phase }], guard := none }) (v := ?_) rfl (by decide) (by kernel_rfl) (by kernel_rfl) (by kernel_rfl) (fun _ _ _ h => h) (Or.inl ⟨by rfl, ?_⟩) ?_
                      rotate_left
                      · intro wz _
                        go_simp
                        (try with_reducible rfl)
                      try simp only [Act.put, List.setIfInBounds_toArray, List.set_cons_zero, List.set_cons_succ]
                      refine anyL_ready (rs := [12]) (by kernel_rfl) (by simp) ?_
                      refine AllL.last (o := { dst := none, op := Go.Op.store 24 (Go.Operand.tmp 76) (Go.Operand.tmp 75), type := 0, pos := "ref.go:160", after := #[{ on := 11, ground := Go.Ground.data }, { on := 10, ground := Go.Ground.data }, { on := 10, ground := Go.Ground.chain }, { on := 0, ground := Go.Ground.phase }, { on := 1, ground := Go.Ground.phase }, { on := 2, ground := Go.Ground.phase }, { on := 3, ground := Go.Ground.phase }, { on := 4, ground := Go.Ground.phase }, { on := 5, ground := Go.Ground.phase }, { on := 6, ground := Go.Ground.phase }, { on := 7, ground := Go.Ground.phase }, { on := 8, ground := Go.Ground.phase }, { on := 9, ground := Go.Ground.phase }, { on := 10, ground := Go.Ground.phase }], guard := none }) rfl (by decide) (fun K hK => ?_)
                      have s5 := (hBox.more b5).cell 5
                      have f5 := (hBox.more b5).fr 5
                      simp only [List.getElem?_toArray, List.getElem?_cons_succ, List.getElem?_cons_zero] at s5
                      go_simp
                      refine hK _ _ ?_
                      clear hK K s5 f5
                      try simp only [Act.put, List.setIfInBounds_toArray, List.set_cons_zero, List.set_cons_succ]
                      refine anyL_done (by kernel_rfl) ?_ _
                      have hpu := HPU.out w5 g5 cap5 b5 (by rw [← HNN.out]; exact own5)
                      rw [← HNN.out] at hpu
                      have HPX := Lib.hid hpu
                      clear hpu
                      go_wp2
                      go_meet
                      exact ⟨_, _, _, HPX.out.1, HPX.out.2 _ _ _ HKB.out (by omega)⟩
                    exact AllL.nil
                  exact AllL.nil
                exact AllL.nil
              refine AllL.cons (o := { dst := some 74, op := Go.Op.buildSlice 24 1 #[(0, Go.Operand.tmp 73)], type := 24, pos := "ref.go:160", after := #[{ on := 8, ground := Go.Ground.data }], guard := none }) rfl (fun K hK => ?_) ?_
              · go_simp
                refine hK _ _ (hSB _ (bA _)) ?_
                clear hK K
                try simp only [Act.put, List.setIfInBounds_toArray, List.set_cons_zero, List.set_cons_succ]
                refine anyL_ready (rs := [0]) (by kernel_rfl) (by simp) ?_
                refine AllL.cons (o := { dst := some 65, op := Go.Op.buildSlice 24 0 #[], type := 24, pos := "ref.go:160", after := #[], guard := none }) rfl (fun K hK => ?_) ?_
                · go_simp
                  refine hK _ _ (hSB _ (bAA _ _)) ?_
                  clear hK K
                  try simp only [Act.put, List.setIfInBounds_toArray, List.set_cons_zero, List.set_cons_succ]
                  refine anyL_ready (rs := [3]) (by kernel_rfl) (by simp) ?_
                  refine AllL.cons (o := { dst := some 68, op := Go.Op.call { callee := Go.Callee.builtin Go.Builtin.append, args := #[Go.Operand.tmp 65, Go.Operand.tmp 67], argTypes := #[24, 24] }, type := 24, pos := "ref.go:160", after := #[{ on := 0, ground := Go.Ground.data }, { on := 2, ground := Go.Ground.data }], guard := none }) rfl (fun K hK => ?_) ?_
                  · refine mst_copy rfl (.tmp 65) (.tmp 67) rfl wq.heap.size (wq.heap.size + 1) g n cap xs rfl rfl hE2 hxl (mst_news own0 (bAA _ _)) hx1 hn0 hn9 ((bAA _ _)).size ?_
                    intro g1 cap1 w2 own1 grow1 hg1
                    try go_simp
                    have b2 := jgb (bAA _ _) grow1 ((bAA _ _)).size (Nat.le_succ _)
                    refine hK _ _ (hSB _ b2) ?_
                    clear hK K
                    try simp only [Act.put, List.setIfInBounds_toArray, List.set_cons_zero, List.set_cons_succ]
                    refine anyL_ready (rs := [10]) (by kernel_rfl) (by simp) ?_
                    refine AllL.cons (o := { dst := some 75, op := Go.Op.call { callee := Go.Callee.builtin Go.Builtin.append, args := #[Go.Operand.tmp 68, Go.Operand.tmp 74], argTypes := #[24, 24] }, type := 24, pos := "ref.go:160", after := #[{ on := 3, ground := Go.Ground.data }, { on := 9, ground := Go.Ground.data }, { on := 3, ground := Go.Ground.chain }], guard := none }) rfl (fun K hK => ?_) ?_
                    · refine mst_one rfl (.tmp 68) (.tmp 74) rfl wq.heap.size wq.heap.size n xs (.slice (some ⟨g1, 0, none⟩) n cap1) (.string kx) (.int .i64 v.kind) (.bool v.b) (.int .i64 v.n) (.string v.s) (.slice vp v.items.length vc) (.slice vq v.mems.length vd) (.int .i64 v.at') (.int .i64 (st : Int)) rfl rfl own1 (jheap_grown grow1 (by omega) blkC) hk1 hn9 (b2).size ?_
                      intro g5 cap5 w5 own5 grow5
                      try go_simp
                      have b5 := jgb b2 grow5 (b2).size hg1
                      refine hK _ _ (hSB _ b5) ?_
                      clear hK K
                      try simp only [Act.put, List.setIfInBounds_toArray, List.set_cons_zero, List.set_cons_succ]
                      refine anyL_takeD (i := 11) (oi := { dst := some 76, op := Go.Op.fieldAddr 26 (Go.Operand.tmp 7) 5, type := 0, pos := "ref.go:160", after := #[{ on := 0, ground := Go.Ground.phase }, { on := 1, ground := Go.Ground.phase }, { on := 2, ground := Go.Ground.phase }, { on := 3, ground := Go.Ground.phase }, { on := 4, ground := Go.Ground.phase }, { on := 5, ground := Go.Ground.phase }, { on := 6, ground := Go.Ground.phase }, { on := 7, ground := Go.Ground.phase }, { on := 8, ground := Go.Ground.phase }, { on := 9, ground := Go.Ground.phase }, { on := 10, ground := Go.Ground.phase }], guard := none }) (v := ?_) rfl (by decide) (by kernel_rfl) (by kernel_rfl) (by kernel_rfl) (fun _ _ _ h => h) (Or.inl ⟨by rfl, ?_⟩) ?_
                      rotate_left
                      · intro wz _
                        go_simp
                        (try with_reducible rfl)
                      try simp only [Act.put, List.setIfInBounds_toArray, List.set_cons_zero, List.set_cons_succ]
                      refine anyL_ready (rs := [12]) (by kernel_rfl) (by simp) ?_
                      refine AllL.last (o := { dst := none, op := Go.Op.store 24 (Go.Operand.tmp 76) (Go.Operand.tmp 75), type := 0, pos := "ref.go:160", after := #[{ on := 11, ground := Go.Ground.data }, { on := 10, ground := Go.Ground.data }, { on := 10, ground := Go.Ground.chain }, { on := 0, ground := Go.Ground.phase }, { on := 1, ground := Go.Ground.phase }, { on := 2, ground := Go.Ground.phase }, { on := 3, ground := Go.Ground.phase }, { on := 4, ground := Go.Ground.phase }, { on := 5, ground := Go.Ground.phase }, { on := 6, ground := Go.Ground.phase }, { on := 7, ground := Go.Ground.phase }, { on := 8, ground := Go.Ground.phase }, { on := 9, ground := Go.Ground.phase }, { on := 10, ground := Go.Ground.phase }], guard := none }) rfl (by decide) (fun K hK => ?_)
                      have s5 := (hBox.more b5).cell 5
                      have f5 := (hBox.more b5).fr 5
                      simp only [List.getElem?_toArray, List.getElem?_cons_succ, List.getElem?_cons_zero] at s5
                      go_simp
                      refine hK _ _ ?_
                      clear hK K s5 f5
                      try simp only [Act.put, List.setIfInBounds_toArray, List.set_cons_zero, List.set_cons_succ]
                      refine anyL_done (by kernel_rfl) ?_ _
                      have hpu := HPU.out w5 g5 cap5 b5 (by rw [← HNN.out]; exact own5)
                      rw [← HNN.out] at hpu
                      have HPX := Lib.hid hpu
                      clear hpu
                      go_wp2
                      go_meet
                      exact ⟨_, _, _, HPX.out.1, HPX.out.2 _ _ _ HKB.out (by omega)⟩
                    exact AllL.nil
                  exact AllL.nil
                exact AllL.nil
              exact AllL.nil
          case rest =>
          obtain ⟨p', c', xs', hL', hR'⟩ := hcut
          have x7 : wc.cell? ⟨w6.heap.size, 7, none⟩ = some (.int .i64 (tz : Int)) := hR'.cell 7
          have HL9 := Lib.hid hL'
          clear hL' hR' hKb x8 t0 HPU HKB HLq HL1
          go_wp2_with fail
          refine (cS2 _).mono ?_
          rintro en w3 ⟨rfl, rfl⟩
          go_wp2_with fail
          refine (cH1 _).mono ?_
          rintro en w3 ⟨rfl, rfl⟩
          rcases h1 with _ | _
          case true =>
            have hlt1 := hl1 rfl
            have HD := Lib.hid (fun (w' : World) (x : Value) (h : ResIs w' w.heap.size s.size u (.ok (.mk 5 false 0 ⟨#[]⟩ [] (l ++ [MemD.mk kx v (st : Int)]) i) (n1 + 1 - u)) x) => HREL.out w' x (by rw [HST.out, if_pos rfl]; exact h))
            have t0 : wc.cell? ⟨w.heap.size + 1, 0, none⟩ = some (.int .i64 5) := HL9.out.box.cell 0
            have t1 : wc.cell? ⟨w.heap.size + 1, 1, none⟩ = some (.bool false) := HL9.out.box.cell 1
            have t2 : wc.cell? ⟨w.heap.size + 1, 2, none⟩ = some (.int .i64 0) := HL9.out.box.cell 2
            have t3 : wc.cell? ⟨w.heap.size + 1, 3, none⟩ = some (.string ⟨#[]⟩) := HL9.out.box.cell 3
            have t4 : wc.cell? ⟨w.heap.size + 1, 4, none⟩ = some (.slice none 0 0) := HL9.out.box.cell 4
            have t5 : wc.cell? ⟨w.heap.size + 1, 5, none⟩ = some (.slice p' (l ++ [MemD.mk kx v (st : Int)]).length c') := HL9.out.box.cell 5
            have t6 : wc.cell? ⟨w.heap.size + 1, 6, none⟩ = some (.int .i64 (i : Int)) := HL9.out.box.cell 6
            obtain ⟨⟨r0, r1, r2, r3, r4, r5, r6, r7, r8⟩, k0, k1, k2, k3, k4, k5, k6, k7, k8⟩ := (HL9.out.res).nine
            clear HREL HST cS2 cH1 cH2 cW x7 hl1 hl2
            go_wp2
            exact bodyPost_ret (v := resV 5 false 0 ⟨#[]⟩ none 0 0 p' (l ++ [MemD.mk kx v (st : Int)]).length c' i ((n1 : Int) + 1) 0) (by simp [results, Tryz.results48, go_sem, resV, jset_same, r0, r1, r2, r3, r4, r5, r6, r7, r8]) rfl (have q := HL9.out.done (jset9 (Pj.refl (fun b => b = w.heap.size) _) (b := w.heap.size) (.inl rfl) 0 _ _ _ _ _ _ _ _ _) (u := u) (k := n1 + 1 - u) (n := s.size) (by omega) (y := (n1 : Int) + 1) (by omega); ⟨⟨_, rfl, HD.out _ _ q.1⟩, q.2⟩)
          case false =>
            go_wp2_with fail
            refine (cH2 _).mono ?_
            rintro en w3 ⟨rfl, rfl⟩
            rcases h2 with _ | _
            · have HXx := Lib.hid (fun (w' : World) => HREL.out w' (errV y1 y2) (by rw [HST.out, if_neg (by decide), if_neg (by decide)]; exact ⟨rfl, HWR.out⟩))
              clear HREL HST cS2 cH1 cH2 x7 hl1 hl2
              go_wp2_with fail
              refine (cW _).mono ?_
              rintro en w7 ⟨rfl, b7⟩
              have HL7 := Lib.hid (HL9.out.more b7)
              obtain ⟨⟨r0, r1, r2, r3, r4, r5, r6, r7, r8⟩, k0, k1, k2, k3, k4, k5, k6, k7, k8⟩ := (HL7.out.res).nine
              have HBo := Lib.hid HL7.out.below
              clear b7 cW
              go_wp2
              exact bodyPost_ret (v := errV y1 y2) (by simp [results, Tryz.results48, go_sem, errV, jset_same, r0, r1, r2, r3, r4, r5, r6, r7, r8]) rfl ⟨⟨_, rfl, HXx.out _⟩, (jset9 (Pj.refl (fun b => b = w.heap.size) _) (b := w.heap.size) (.inl rfl) 0 _ _ _ _ _ _ _ _ _).below HBo.out (fun b hb => by omega) HBo.out.size⟩
            · have hlt2 := hl2 rfl
              have HRN := Lib.hid (fun (w' : World) (x : Value) (h : ResIs w' w.heap.size s.size (n1 + 1) (listK fu true i [] (l ++ [MemD.mk kx v (st : Int)]) (n1 + 1) (s.data.toList.drop (n1 + 1)) d) x) => show ResIs w' w.heap.size s.size i R x from HREL.out w' x (by
                rw [HST.out, if_neg (by decide), if_pos rfl]
                refine ResIs.plus ?_
                rw [show u + (n1 + 1 - u) = n1 + 1 by omega]
                exact h))
              clear HREL HST cS2 cH1 cH2 cW x7 hl1 hl2
              go_wp2
              go_roundw
              case rel => exact ⟨n1 + 1, fu, (l ++ [MemD.mk kx v (st : Int)]), p', c', xs', by go_num, by omega, by omega, by omega, by omega, by rw [List.length_append, List.length_singleton]; omega, fun e => absurd e (by simp), HRN.out, HL9.out⟩
              case measure => simp [RowKit.intOf]; omega
end Go.Proofs.YtkkiklaoljdhhaaGreatDoor
end
