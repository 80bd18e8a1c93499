/- Packed from the texts NsF NsH. -/
import Derived.Test.YtoehcholbcchcaaDoorUNsB
import Derived.Deep.LoopGhost
section
namespace Go.Proofs.YtoehcholbcchcaaDoor
open Go.RowKit Go.Maps
set_option maxRecDepth 100000 in
set_option maxHeartbeats 4000000 in
theorem ns_find (T nb : Nat) (E : List Fr) (p : Option Addr) (q : ByteArray) (w : World) (hE : EnvAt T nb w E p) (hq : q.size ≤ maxLen) : Calls Tryd.prog 49 #[.pointer p, .string q] w fun e w' => e = .returned (.tuple #[nsVal (findE E q), .bool (findE E q).isSome]) ∧ Below w.heap.size w w' := by
  have hE0 : EnvAt T nb (w.alloc (.cells #[.string ⟨#[]⟩, .int .i64 0] 98)) E p := EnvAt.part (X := fun _ => False) (Part.of ((Below.refl _ _).alloc (Nat.le_refl _) _)) (fun _ x => x.elim) E p hE
  have bR : Below w.heap.size w (w.alloc (.cells #[.string ⟨#[]⟩, .int .i64 0] 98)) := (Below.refl _ _).alloc (Nat.le_refl _) _
  have kR : Blk (w.alloc (.cells #[.string ⟨#[]⟩, .int .i64 0] 98)) w.heap.size #[.string ⟨#[]⟩, .int .i64 0] 98 := Blk.new w _ _
  clear hE
  go_enter Tryd.func49, Tryd.ntmps49
  go_wp2
  go_loopg [0] E.length (fun gn v wr => ∃ (E' : List Fr) (p' : Option Addr), v = .pointer p' ∧ EnvAt T nb wr E' p' ∧ findE E q = findE E' q ∧ E'.length = gn ∧ Below w.heap.size w wr ∧ Blk wr w.heap.size #[.string ⟨#[]⟩, .int .i64 0] 98)
  case atStart => exact ⟨E, p, rfl, hE0, rfl, rfl, bR, kR⟩
  case round =>
    clear hE0 bR kR
    obtain ⟨E', p', rfl, hE, hf, hl, hb, hk⟩ := hrel
    have hz := hb.size
    have k0 : wr.cell? ⟨w.heap.size, 0, none⟩ = some (.string ⟨#[]⟩) := hk.cell 0
    have k1 : wr.cell? ⟨w.heap.size, 1, none⟩ = some (.int .i64 0) := hk.cell 1
    have f0 := hk.fr 0
    have f1 := hk.fr 1
    have HF := Lib.hid hf
    have HB := Lib.hid hb
    clear hf hb
    cases E' with
    | nil =>
      rw [EnvAt] at hE
      subst hE
      go_wp2
      exact bodyPost_ret (v := .tuple #[.agg #[.string ⟨#[]⟩, .int .i64 0], .bool false]) (by simp [results, Tryd.results49, go_sem, cell_set_same, k0, k1]) rfl ⟨by rw [HF.out]; rfl, ((HB.out.setCell (p := ⟨w.heap.size, 0, none⟩) (Nat.le_refl _) _).setCell (p := ⟨w.heap.size, 1, none⟩) (Nat.le_refl _) _)⟩
    | cons f r =>
      rw [EnvAt] at hE
      obtain ⟨b, m, o, rfl, hT, hnb, hTm, hnm, hblk, hfr, hr⟩ := hE
      have d0 : wr.cell? ⟨b, 0, none⟩ = some (.map (some m)) := hblk.cell 0
      have d1 : wr.cell? ⟨b, 1, none⟩ = some (.pointer o) := hblk.cell 1
      have hlook := hfr.look q hq
      have HR := Lib.hid hr
      have HK := Lib.hid hk
      have HL := Lib.hid hl
      have HFr := Lib.hid hfr
      clear hr hk hl hfr
      cases hx : findF f q with
      | some x =>
        rw [hx] at hlook
        have hv : findE E q = some x := by rw [HF.out, findE, hx]
        obtain ⟨x1, x2⟩ := x
        simp only [nsVal, Option.isSome] at hlook
        have HV := Lib.hid hv
        have bA : Below wr.heap.size wr (wr.alloc (.cells #[.string x1, .int .i64 x2] 98)) := (Below.refl _ _).alloc (Nat.le_refl _) _
        have kA := HK.out.more bA
        have k0 : (wr.alloc (.cells #[.string x1, .int .i64 x2] 98)).cell? ⟨w.heap.size, 0, none⟩ = some (.string ⟨#[]⟩) := kA.cell 0
        have k1 : (wr.alloc (.cells #[.string x1, .int .i64 x2] 98)).cell? ⟨w.heap.size, 1, none⟩ = some (.int .i64 0) := kA.cell 1
        have f0 := kA.fr 0
        have f1 := kA.fr 1
        have BA := Lib.hid (HB.out.trans (bA.mono hz))
        clear hx hv kA bA
        go_wp2
        exact bodyPost_ret (v := .tuple #[.agg #[.string x1, .int .i64 x2], .bool true]) (by simp [results, Tryd.results49, go_sem, cell_set_same, k0, k1]) rfl ⟨by rw [HV.out]; rfl, (BA.out.setCell (p := ⟨w.heap.size, 0, none⟩) (Nat.le_refl _) _).setCell (p := ⟨w.heap.size, 1, none⟩) (Nat.le_refl _) _⟩
      | none =>
        rw [hx] at hlook
        have hv : findE E q = findE r q := by rw [HF.out, findE, hx]
        simp only [nsVal, Option.isSome] at hlook
        have HV := Lib.hid hv
        have bA : Below wr.heap.size wr (wr.alloc (.cells #[.string ⟨#[]⟩, .int .i64 0] 98)) := (Below.refl _ _).alloc (Nat.le_refl _) _
        have d1 : (wr.alloc (.cells #[.string ⟨#[]⟩, .int .i64 0] 98)).cell? ⟨b, 1, none⟩ = some (.pointer o) := (hblk.more bA).cell 1
        have HBA := Lib.hid bA
        clear hx hv bA hblk
        go_wp2
        go_roundg r.length
        case measure => have := HL.out; simp only [List.length_cons] at this; omega
        case rel => exact ⟨r, o, rfl, EnvAt.part (X := fun _ => False) (Part.of HBA.out) (fun _ x => x.elim) r o HR.out, HV.out, rfl, HB.out.trans (HBA.out.mono hz), HK.out.more HBA.out⟩
structure Nums (T rb nb : Nat) (N : List ByteArray) (w : World) : Prop where
  low : T ≤ rb
  lown : T ≤ nb
  ne : rb ≠ nb
  blk : Blk w rb #[.map (some nb)] 95
  map : NumMap w nb N
  nodup : N.Nodup
theorem Nums.part {T rb nb : Nat} {N : List ByteArray} {X : Nat → Prop} {w w' : World} (h : Nums T rb nb N w) (hp : Part X w w') (hx : ∀ k, X k → k < T) : Nums T rb nb N w' :=
  ⟨h.low, h.lown, h.ne, hp.blk h.blk (fun x => by have := hx rb x; have := h.low; omega), h.map.same (hp.block nb h.map.lt (fun x => by have := hx nb x; have := h.lown; omega)), h.nodup⟩
theorem Nums.off {T rb nb : Nat} {N : List ByteArray} {X : Nat → Prop} {w w' : World} (h : Nums T rb nb N w) (hp : Part X w w') (h1 : ¬ X rb) (h2 : ¬ X nb) : Nums T rb nb N w' :=
  ⟨h.low, h.lown, h.ne, hp.blk h.blk h1, h.map.same (hp.block nb h.map.lt h2), h.nodup⟩
theorem Nums.below {T rb nb : Nat} {N : List ByteArray} {w w' : World} (h : Nums T rb nb N w) (hb : Below w.heap.size w w') : Nums T rb nb N w' := h.part (X := fun _ => False) (Part.of hb) (fun _ x => x.elim)
def NumTo (T rb nb : Nat) (N : List ByteArray) (c : Nat) (N' : List ByteArray) (w' : World) : Prop := Nums T rb nb N' w' ∧ NumLe N N' ∧ N'.length ≤ N.length + c
set_option maxRecDepth 100000 in
set_option maxHeartbeats 4000000 in
theorem ns_namespace (T rb nb : Nat) (N : List ByteArray) (name : ByteArray) (w : World) (hN : Nums T rb nb N w) (hl : N.length ≤ 1000000000) (hs : name.size ≤ maxLen) :
    Calls Tryd.prog 53 #[.pointer (some ⟨rb, 0, none⟩), .string name] w fun e w' => ∃ (k : Nat) (N' : List ByteArray), e = .returned (.agg #[.string name, .int .i64 k]) ∧ NumTo T rb nb N 1 N' w' ∧ numF N' name = some k ∧ Part (fun i => i = nb) w w' := by
  have bA : Below w.heap.size w (w.alloc (.cells #[.string ⟨#[]⟩, .int .i64 0] 98)) := (Below.refl _ _).alloc (Nat.le_refl _) _
  have kA : Blk (w.alloc (.cells #[.string ⟨#[]⟩, .int .i64 0] 98)) w.heap.size #[.string ⟨#[]⟩, .int .i64 0] 98 := Blk.new w _ _
  have N1 := hN.below bA
  have hlt := hN.map.lt
  have hrlt := hN.blk.lt
  have hne := hN.ne
  obtain ⟨W, hW⟩ : ∃ W, W = w.alloc (.cells #[.string ⟨#[]⟩, .int .i64 0] 98) := ⟨_, rfl⟩
  have hWz : W.heap.size = w.heap.size + 1 := by rw [hW]; simp
  rw [← hW] at bA kA N1
  have d0 : W.cell? ⟨rb, 0, none⟩ = some (.map (some nb)) := N1.blk.cell 0
  have k0 : W.cell? ⟨w.heap.size, 0, none⟩ = some (.string ⟨#[]⟩) := kA.cell 0
  have k1 : W.cell? ⟨w.heap.size, 1, none⟩ = some (.int .i64 0) := kA.cell 1
  have f0 := kA.fr 0
  have f1 := kA.fr 1
  have hlook := N1.map.look name hs
  cases hx : numF N name with
  | some k =>
    rw [hx] at hlook
    simp only [Option.getD, Option.isSome] at hlook
    have HX := Lib.hid hx
    have HN := Lib.hid hN
    have HB := Lib.hid bA
    clear hx N1 bA hN kA hlt hrlt hne
    go_enter Tryd.func53, Tryd.ntmps53
    go_upto_region 1 with fail
    simp only [← hW]
    clear hW
    go_wp2
    refine bodyPost_ret (v := .agg #[.string name, .int .i64 k]) (by simp [results, Tryd.results53, go_sem, cell_set_same, k0, k1]) rfl ?_
    have P : ∀ u0 u1, Part (fun _ => False) w ((W.setCell ⟨w.heap.size, 0, none⟩ u0).setCell ⟨w.heap.size, 1, none⟩ u1) := fun u0 u1 => ((Part.of HB.out).set (q := ⟨w.heap.size, 0, none⟩) (.inr (Nat.le_refl _)) u0).set (q := ⟨w.heap.size, 1, none⟩) (.inr (Nat.le_refl _)) u1
    exact ⟨k, N, rfl, ⟨HN.out.part (P _ _) (fun _ x => x.elim), NumLe.refl N, by omega⟩, HX.out, (P _ _).mono (fun _ _ x => x.elim)⟩
  | none =>
    rw [hx] at hlook
    simp only [Option.getD, Option.isSome] at hlook
    have hsz := numD_size N hN.nodup
    have hkey := Go.WideMaps.keyOf_string_mk (P := Tryd.prog) Tryd.underlying9 (s := name) hs
    have hmapO := N1.map
    unfold NumMap at hmapO
    have HX := Lib.hid hx
    have HN := Lib.hid hN
    have HB := Lib.hid bA
    clear hx N1 bA hN
    go_enter Tryd.func53, Tryd.ntmps53
    go_upto_region 1 with fail
    simp only [← hW]
    clear hW
    go_wp2_with (first | (at_len; refine wpList_len_own _ rfl _ 93 rfl 9 3 Tryd.underlying93 _ nb N.length (numD N) rfl hmapO ?_; rw [hsz]) | (at_mapUpdate; refine wpList_mapUpdate_own _ rfl _ _ _ 93 rfl 9 3 nskey Tryd.underlying93 (plainElem (H := Unit) Tryd.prog 3) nb N.length (numD N) rfl hmapO (by unfold maxLen; omega) _ _ _ rfl rfl hkey _ [] (plainElem_int Tryd.underlying3 (a := (N.length : Int)) (wf_nat _ (by omega))) ?_; intro w6 hmap6 hgr6; have kB : Blk w6 w.heap.size #[.string ⟨#[]⟩, .int .i64 0] 98 := (hgr6.block _ (by omega) (fun e => by have := Option.some.inj e; omega)).trans kA; have k0 := kB.cell 0; have k1 := kB.cell 1; have f0 := kB.fr 0; have f1 := kB.fr 1))
    refine bodyPost_ret (v := .agg #[.string name, .int .i64 N.length]) (by simp [results, Tryd.results53, go_sem, cell_set_same, k0, k1]) rfl ?_
    have P : ∀ u0 u1, Part (fun i => i = nb) w ((w6.setCell ⟨w.heap.size, 0, none⟩ u0).setCell ⟨w.heap.size, 1, none⟩ u1) := fun u0 u1 => (((Part.of HB.out).grown hgr6 (fun b hb => .inl (Option.some.inj hb).symm)).set (q := ⟨w.heap.size, 0, none⟩) (.inr (Nat.le_refl _)) u0).set (q := ⟨w.heap.size, 1, none⟩) (.inr (Nat.le_refl _)) u1
    have hm6 : NumMap w6 nb (name :: N) := hmap6
    have hnew : name ∉ N := (numF_mem N name).1 HX.out
    refine ⟨N.length, name :: N, rfl, ⟨⟨HN.out.low, HN.out.lown, hne, (P _ _).blk HN.out.blk hne, hm6.same ?_, List.nodup_cons.2 ⟨hnew, HN.out.nodup⟩⟩, fun x k hx => numF_push hnew hx, by simp⟩, by rw [numF, if_pos rfl], P _ _⟩
    rw [Below.heap_setCell _ _ _ _ (show nb ≠ w.heap.size by omega), Below.heap_setCell _ _ _ _ (show nb ≠ w.heap.size by omega)]
end Go.Proofs.YtoehcholbcchcaaDoor
end
section
namespace Go.Proofs.YtoehcholbcchcaaDoor
open Go.RowKit Go.Maps
theorem NumTo.refl {T rb nb : Nat} {N : List ByteArray} {w : World} (h : Nums T rb nb N w) (c : Nat) : NumTo T rb nb N c N w := ⟨h, NumLe.refl N, by omega⟩
theorem NumTo.trans {T rb nb c d : Nat} {N N' N'' : List ByteArray} {w w' : World} (h : NumTo T rb nb N c N' w) (k : NumTo T rb nb N' d N'' w') : NumTo T rb nb N (c + d) N'' w' := ⟨k.1, h.2.1.trans k.2.1, by have := h.2.2; have := k.2.2; omega⟩
theorem NumTo.mono {T rb nb c d : Nat} {N N' : List ByteArray} {w : World} (h : NumTo T rb nb N c N' w) (hc : c ≤ d) : NumTo T rb nb N d N' w := ⟨h.1, h.2.1, by have := h.2.2; omega⟩
theorem NumTo.part {T rb nb c : Nat} {N N' : List ByteArray} {X : Nat → Prop} {w w' : World} (h : NumTo T rb nb N c N' w) (hp : Part X w w') (hx : ∀ k, X k → k < T) : NumTo T rb nb N c N' w' := ⟨h.1.part hp hx, h.2⟩
def NewR (T : Nat) (w : World) (e : Ending) (w' : World) : Prop := ∃ rb nb, e = .returned (.pointer (some ⟨rb, 0, none⟩)) ∧ Nums T rb nb [noB] w' ∧ Below w.heap.size w w'
set_option maxRecDepth 100000 in
set_option maxHeartbeats 4000000 in
theorem ns_newResolver (T : Nat) (w : World) (hT : T ≤ w.heap.size) : Calls Tryd.prog 27 #[] w fun e w' => NewR T w e w' := by
  have hmm := @run_makeMap Tryd.prog
  have hm0 : (w.alloc (.map #[] 0)).ownsMap Tryd.prog 9 (plainElem (H := Unit) Tryd.prog 3) w.heap.size 0 (numD []) := World.ownsMap_made w _ _ _
  have hkey := Go.WideMaps.keyOf_string_mk (P := Tryd.prog) Tryd.underlying9 (s := ⟨#[]⟩) (by decide)
  obtain ⟨w2, hrun, hm2, hg2⟩ := World.ownsMap.update hm0 nskey Tryd.underlying93 (by decide) hkey (plainElem_int Tryd.underlying3 (a := 0) (by decide))
  have hz2 := hg2.size
  rw [World.size_alloc] at hz2
  have B2 : Below w.heap.size w w2 := ((Below.refl _ _).alloc (Nat.le_refl _) _).grown hg2 (by simp) (fun k hk => by cases hk; exact Nat.le_refl _)
  have kR := Blk.new w2 #[.map (some w.heap.size)] 95
  have HM := Lib.hid hm2
  have HB := Lib.hid B2
  have HK := Lib.hid kR
  clear hm0 hg2 hm2 B2 kR hkey
  go_enter Tryd.func27, Tryd.ntmps27
  go_wp2
  refine bodyPost_ret (v := .pointer (some ⟨w2.heap.size, 0, none⟩)) (by simp [results, Tryd.results27, go_sem]) rfl ⟨_, w.heap.size, rfl, ⟨by omega, hT, by omega, HK.out, ?_, by simp⟩, HB.out.alloc HB.out.size _⟩
  exact NumMap.same (show NumMap w2 w.heap.size [noB] from HM.out) (Below.heap_alloc _ _ _ (by omega))
def frame0 (k : Nat) : Fr := [(xmlB, xmlSp, k), (noB, noB, 0)]
theorem env0 (N : List ByteArray) (k0 : Nat) (h0 : numF N noB = some 0) (h1 : numF N xmlSp = some k0) : EnvOk N [frame0 k0] [] := by
  intro q
  have hf : findE [frame0 k0] q = if xmlB = q then some (xmlSp, k0) else if noB = q then some (noB, 0) else none := by
    have h1 : findF (frame0 k0) q = if xmlB = q then some (xmlSp, k0) else if noB = q then some (noB, 0) else none := rfl
    rw [findE, findE, h1]
    split
    · rename_i h; rw [h]
    · rename_i h; rw [h]
  have hl : lookP [] q = if q = xmlB then some xmlSp else if q = noB then some noB else none := rfl
  rw [hf, hl]
  by_cases hx : xmlB = q
  · rw [if_pos hx, if_pos (show q = xmlB from hx.symm)]
    exact ⟨rfl, fun x k h => by cases h; exact h1⟩
  · rw [if_neg hx, if_neg (show ¬ q = xmlB from fun e => hx e.symm)]
    by_cases hn : noB = q
    · rw [if_pos hn, if_pos (show q = noB from hn.symm)]
      exact ⟨rfl, fun x k h => by cases h; exact h0⟩
    · rw [if_neg hn, if_neg (show ¬ q = noB from fun e => hn e.symm)]
      exact ⟨rfl, fun x k h => by cases h⟩
def OutR (T rb nb : Nat) (w : World) (e : Ending) (w' : World) : Prop := ∃ p N' k0, e = .returned (.pointer p) ∧ NumTo T rb nb [noB] 1 N' w' ∧ EnvAt T nb w' [frame0 k0] p ∧ EnvOk N' [frame0 k0] [] ∧ Part (fun i => i = nb) w w'
set_option maxRecDepth 100000 in
set_option maxHeartbeats 4000000 in
theorem ns_outermost (T rb nb : Nat) (w : World) (hT : T ≤ w.heap.size) (hN : Nums T rb nb [noB] w) : Calls Tryd.prog 30 #[.pointer (some ⟨rb, 0, none⟩)] w fun e w' => OutR T rb nb w e w' := by
  have hmm := @run_makeMap Tryd.prog
  have hnb := hN.map.lt
  have hrb := hN.blk.lt
  have hm0 : (w.alloc (.map #[] 0)).ownsMap Tryd.prog 9 nsElem w.heap.size 0 (frD []) := World.ownsMap_made w _ _ _
  have hkey := Go.WideMaps.keyOf_string_mk (P := Tryd.prog) Tryd.underlying9 (s := ⟨#[]⟩) (by decide)
  have hkey2 := Go.WideMaps.keyOf_string_mk (P := Tryd.prog) Tryd.underlying9 (s := xmlB) (by decide)
  obtain ⟨w2, hrun, hm2, hg2⟩ := World.ownsMap.update hm0 nskey Tryd.underlying103 (by decide) hkey (nsElem_mk ⟨#[]⟩ 0)
  have hz2 := hg2.size
  rw [World.size_alloc] at hz2
  have P2 : Part (fun _ => False) w w2 := ((Part.refl _ w).alloc _).grown hg2 (fun k hk => by cases hk; exact .inr (Nat.le_refl _))
  have N2 := hN.part P2 (fun _ x => x.elim)
  have cN := ns_namespace T rb nb [noB] xmlSp w2 N2 (by simp) (by decide)
  have HM := Lib.hid hm2
  have HP := Lib.hid P2
  clear hm0 hg2 hm2 P2 N2 hN hkey
  unfold xmlSp at cN
  unfold xmlB at hkey2
  go_enter Tryd.func30, Tryd.ntmps30
  go_wp2_with fail
  refine cN.mono ?_
  rintro e w3 ⟨k, N', rfl, hN3, hk3, P3⟩
  have hm3 : FrMap w3 w.heap.size [(noB, noB, 0)] := (show FrMap w2 w.heap.size [(noB, noB, 0)] from HM.out).same (P3.block _ (by omega) (by omega))
  unfold FrMap at hm3
  obtain ⟨w4, hrun4, hm4, hg4⟩ := World.ownsMap.update hm3 nskey Tryd.underlying103 (by simp [maxLen]) hkey2 (nsElem_mk xmlSp (k : Int))
  have H3 := Lib.hid hN3
  have HP3 := Lib.hid P3
  have HM4 := Lib.hid hm4
  have HG4 := Lib.hid hg4
  have HK3 := Lib.hid hk3
  unfold xmlSp at hrun4
  have hz4 := hg4.size
  have hz3 := P3.size
  clear hm3 hm4 hg4 hN3 hk3 P3
  go_wp2
  refine bodyPost_ret (v := .pointer (some ⟨w4.heap.size, 0, none⟩)) (by simp [results, Tryd.results30, go_sem]) rfl ?_
  have P4 : Part (fun i => i = w.heap.size) w3 w4 := (Part.refl _ w3).grown HG4.out (fun b hb => .inl (Option.some.inj hb).symm)
  have PE : Part (fun i => i = nb) w (w4.alloc (.cells #[.map (some w.heap.size), .pointer none] 107)) := (((HP.out.mono (fun _ _ x => x.elim)).trans HP3.out (fun _ _ x => x)).grown HG4.out (fun b hb => .inr (by rw [← Option.some.inj hb]; exact Nat.le_refl _))).alloc _
  have h0 : numF N' noB = some 0 := H3.out.2.1 _ _ rfl
  refine ⟨_, N', k, rfl, ⟨H3.out.1.off (P4.alloc _) (show ¬ rb = w.heap.size by omega) (show ¬ nb = w.heap.size by omega), H3.out.2⟩, ?_, env0 N' k h0 HK3.out, PE⟩
  rw [EnvAt]
  refine ⟨w4.heap.size, w.heap.size, none, rfl, by omega, by omega, hT, by omega, Blk.new w4 _ _, ?_, by rw [EnvAt]⟩
  exact FrMap.same (show FrMap w4 w.heap.size (frame0 k) from HM4.out) (Below.heap_alloc _ _ _ (by omega))
def FinderAt (T nb : Nat) (w : World) (f : Value) (rb : Nat) (p : Option Addr) : Prop := ∃ c1 c2, f = .func (.func 51) #[] #[.pointer (some ⟨c1, 0, none⟩), .pointer (some ⟨c2, 0, none⟩)] ∧ T ≤ c1 ∧ c1 ≠ nb ∧ T ≤ c2 ∧ c2 ≠ nb ∧ Blk w c1 #[.pointer (some ⟨rb, 0, none⟩)] 52 ∧ Blk w c2 #[.pointer p] 60
theorem FinderAt.part {T nb rb : Nat} {f : Value} {p : Option Addr} {X : Nat → Prop} {w w' : World} (h : FinderAt T nb w f rb p) (hp : Part X w w') (hx : ∀ k, X k → k < T ∨ k = nb) : FinderAt T nb w' f rb p := by
  obtain ⟨c1, c2, hf, h1, h2, h3, h4, h5, h6⟩ := h
  exact ⟨c1, c2, hf, h1, h2, h3, h4, hp.blk h5 (fun x => by rcases hx c1 x with y | y; omega; exact h2 y), hp.blk h6 (fun x => by rcases hx c2 x with y | y; omega; exact h4 y)⟩
def WithinR (T rb nb : Nat) (p : Option Addr) (w : World) (e : Ending) (w' : World) : Prop := ∃ f, e = .returned f ∧ FinderAt T nb w' f rb p ∧ Below w.heap.size w w'
set_option maxRecDepth 100000 in
set_option maxHeartbeats 4000000 in
theorem ns_within (T rb nb : Nat) (p : Option Addr) (w : World) (hT : T ≤ w.heap.size) (hnb : nb < w.heap.size) : Calls Tryd.prog 29 #[.pointer (some ⟨rb, 0, none⟩), .pointer p] w fun e w' => WithinR T rb nb p w e w' := by
  have hmf : ∀ (fn : Fn) (first cap : Array Value) (w : World), (Instr.makeFunc fn first cap).run Tryd.prog w = .ok (.func fn first cap) w := fun _ _ _ _ => rfl
  have k1 : Blk ((w.alloc (.cells #[.pointer (some ⟨rb, 0, none⟩)] 52)).alloc (.cells #[.pointer p] 60)) w.heap.size #[.pointer (some ⟨rb, 0, none⟩)] 52 := (Blk.new w _ _).more ((Below.refl _ _).alloc (Nat.le_refl _) _)
  have k2 : Blk ((w.alloc (.cells #[.pointer (some ⟨rb, 0, none⟩)] 52)).alloc (.cells #[.pointer p] 60)) (w.heap.size + 1) #[.pointer p] 60 := by
    have := Blk.new (w.alloc (.cells #[.pointer (some ⟨rb, 0, none⟩)] 52)) #[.pointer p] 60
    simpa using this
  have bw : Below w.heap.size w ((w.alloc (.cells #[.pointer (some ⟨rb, 0, none⟩)] 52)).alloc (.cells #[.pointer p] 60)) := ((Below.refl _ _).alloc (Nat.le_refl _) _).alloc (by simp) _
  have K1 := Lib.hid k1
  have K2 := Lib.hid k2
  have B := Lib.hid bw
  clear k1 k2 bw
  go_enter Tryd.func29, Tryd.ntmps29
  go_wp2
  exact bodyPost_ret (v := .func (.func 51) #[] #[.pointer (some ⟨w.heap.size, 0, none⟩), .pointer (some ⟨w.heap.size + 1, 0, none⟩)]) (by simp [results, Tryd.results29, go_sem]) rfl ⟨_, rfl, ⟨_, _, rfl, hT, by omega, by omega, by omega, K1.out, K2.out⟩, B.out⟩
end Go.Proofs.YtoehcholbcchcaaDoor
end
