/- Packed from the texts NsI NsM. -/
import Derived.Test.YtoehcholbcchcaaDoorUkG
import Derived.Test.YtoehcholbcchcaaDoorUkI
import Derived.DeepKeys4
section
namespace Go.Proofs.YtoehcholbcchcaaDoor
open Go.RowKit Go.Maps
theorem ns_laidOut : laidOutB Tryd.prog = true := by kernel_rfl
theorem ns_rowR : (152 : TypeId) < Tryd.prog.types.size := of_decide_eq_true (by kernel_rfl)
theorem ns_wideR : (match Tryd.prog.underlying 152 with | some (.array _ _) | some (.struct _) => true | _ => false) = true := by kernel_rfl
set_option maxRecDepth 100000 in
theorem ns_lawR : WideMaps.KeyLaw Tryd.prog 152 := deep_law_laid ns_laidOut (m := 2) (by omega) ns_rowR (by kernel_rfl) ns_wideR
theorem rlaw : Keyed Tryd.prog 152 := Keyed.of_law ns_lawR
abbrev Rs := List (Nat × ByteArray)
def rL (k : Nat) (s : ByteArray) : Lit := .string (keyBytes [.int .i64 (k : Int), .string s.data.toList])
theorem ns_keyR : Tryd.prog.keyType 152 = true := by kernel_rfl
theorem ns_cellsR : Tryd.prog.cellsOf 152 = 2 := by kernel_rfl
theorem ns_cellsI : Tryd.prog.cellsOf 3 = 1 := by kernel_rfl
theorem ns_cellsS : Tryd.prog.cellsOf 9 = 1 := by kernel_rfl
theorem rkey (k : Nat) (s : ByteArray) (hk : k ≤ 1000000000000) (hs : s.size ≤ maxLen) : keyOf Tryd.prog 152 (.agg #[.int .i64 (k : Int), .string s]) = some (rL k s) := by
  have hu := Tryd.underlying152
  have h2 : (Value.agg #[.int .i64 (k : Int), .string s]).formed Tryd.prog 152 = true := by simp [Value.formed, hu, ns_cellsR]
  have h3 : Tryd.prog.keyLits (Tryd.prog.types.size + 1) 152 [.int .i64 (k : Int), .string s] = some [.int .i64 (k : Int), .string s.data.toList] := by
    have hpos : 0 < Tryd.prog.types.size := of_decide_eq_true (by kernel_rfl)
    obtain ⟨d, hd⟩ : ∃ d, Tryd.prog.types.size + 1 = d + 2 := ⟨Tryd.prog.types.size - 1, by omega⟩
    rw [hd]
    simp [Program.keyLits, hu, Tryd.underlying3, Tryd.underlying9, ns_cellsR, ns_cellsI, ns_cellsS, wf_nat k hk, hs]
  unfold keyOf
  rw [hu]
  show (if Tryd.prog.keyType 152 && (Value.agg #[.int .i64 (k : Int), .string s]).formed Tryd.prog 152 then (Tryd.prog.keyLits (Tryd.prog.types.size + 1) 152 [.int .i64 (k : Int), .string s]).map (fun ls => Lit.string (keyBytes ls)) else none) = _
  rw [ns_keyR, h2, h3]
  rfl
theorem rL_inj {k k' : Nat} {s s' : ByteArray} (hk : k ≤ 1000000000000) (hs : s.size ≤ maxLen) (hk' : k' ≤ 1000000000000) (hs' : s'.size ≤ maxLen) (h : rL k s = rL k' s') : k = k' ∧ s = s' := by
  have h1 := ns_lawR.inj (rkey k s hk hs) (h ▸ rkey k' s' hk' hs')
  simp only [Value.agg.injEq, Array.mk.injEq, List.cons.injEq, Value.int.injEq, Value.string.injEq, and_true, true_and] at h1
  exact ⟨by omega, h1.2⟩
def RsOk (l : Rs) : Prop := ∀ x ∈ l, x.1 ≤ 1000000000000 ∧ x.2.size ≤ maxLen
def rsD : Rs → DataW Unit
  | [] => .map []
  | x :: r => (rsD r).put (rL x.1 x.2) (.lit (.bool true))
theorem rsD_map : ∀ l, IsMap (rsD l)
  | [] => isMap_empty
  | _ :: r => (rsD_map r).put _ _
def hasR : Rs → Nat → ByteArray → Bool
  | [], _, _ => false
  | x :: r, k, s => decide (x.1 = k ∧ x.2 = s) || hasR r k s
theorem rsD_at (k : Nat) (s : ByteArray) (hk : k ≤ 1000000000000) (hs : s.size ≤ maxLen) : ∀ l : Rs, RsOk l → (rsD l).atKey (rL k s) (.lit (.bool false)) = .lit (.bool (hasR l k s))
  | [], _ => rfl
  | x :: r, h => by
    have hr : RsOk r := fun y hy => h y (List.mem_cons_of_mem _ hy)
    have hx := h x (List.mem_cons_self ..)
    rw [rsD, hasR]
    by_cases hy : x.1 = k ∧ x.2 = s
    · rw [decide_eq_true hy, hy.1, hy.2, atKey_put_same (rsD_map r) (show WideAt.IsKeyLit (rL k s) from trivial), Bool.true_or]
    · rw [decide_eq_false hy, Bool.false_or, atKey_put_other (fun e => hy (by obtain ⟨e1, e2⟩ := rL_inj hk hs hx.1 hx.2 e; exact ⟨e1.symm, e2.symm⟩)), rsD_at k s hk hs r hr]
def RSet (w : World) (b : Nat) (l : Rs) : Prop := w.ownsMap Tryd.prog 152 (plainElem (H := Unit) Tryd.prog 4) b l.length (rsD l) ∧ RsOk l
theorem RSet.lt {w : World} {b : Nat} {l : Rs} (h : RSet w b l) : b < w.heap.size := World.ownsMap.lt h.1
theorem RSet.same {w w' : World} {b : Nat} {l : Rs} (h : RSet w b l) (hb : w'.heap[b]? = w.heap[b]?) : RSet w' b l := by
  obtain ⟨⟨es, clock, h1, h2⟩, h3⟩ := h
  exact ⟨⟨es, clock, hb.trans h1, h2⟩, h3⟩
theorem ns_zeroB (w : World) : (zeroValue 4).run Tryd.prog w = .ok (.bool false) w := by kernel_rfl
theorem ns_bool_inv {P : Program} {e : TypeId} (he : P.underlying e = some .bool) {v : Value} {z : DataW Unit × List MemPlace} (h : plainElem P e v = some z) : ∃ b : Bool, v = .bool b ∧ z = (.lit (.bool b), []) := by
  unfold plainElem at h
  rw [he] at h
  cases v <;> simp at h
  exact ⟨_, rfl, h.symm⟩
theorem RSet.look {w : World} {b : Nat} {l : Rs} (h : RSet w b l) (k : Nat) (s : ByteArray) (hk : k ≤ 1000000000000) (hs : s.size ≤ maxLen) : (Instr.lookup 150 (.map (some b)) (.agg #[.int .i64 (k : Int), .string s]) false).run Tryd.prog w = .ok (.bool (hasR l k s)) w := by
  obtain ⟨v, ps, hrun, hv⟩ := World.ownsMap.lookup h.1 rlaw Tryd.underlying150 (ns_zeroB w) (plainElem_bool Tryd.underlying4 false) (rkey k s hk hs)
  obtain ⟨c, rfl, hz⟩ := ns_bool_inv Tryd.underlying4 hv
  simp only [Prod.mk.injEq] at hz
  rw [hrun]
  have h3 := rsD_at k s hk hs l h.2
  rw [Lit.bool.inj (DataW.lit.inj (hz.1.symm.trans h3))]
end Go.Proofs.YtoehcholbcchcaaDoor
end
section
namespace Go.Proofs.YtoehcholbcchcaaDoor
open Go.RowKit Go.Maps
def ResA (N : List ByteArray) (sa : Option ByteArray) (loc : ByteArray) (ab eb : Nat) (a : AttrD) (l : Rs) (w : World) (e : Ending) (w' : World) : Prop :=
  (sa = none ∧ e = .returned (.int .i64 13) ∧ Below w.heap.size w w') ∨
  ∃ sp k, sa = some sp ∧ numF N sp = some k ∧
   ((hasR l k loc = true ∧ e = .returned (.int .i64 10) ∧ Below w.heap.size w w') ∨
    (hasR l k loc = false ∧ e = .returned (.int .i64 0) ∧ Blk w' ab #[.string sp, .string loc, .string a.va, .int .i64 a.at'] 43 ∧ RSet w' eb ((k, loc) :: l) ∧ Part (fun i => i = ab ∨ i = eb) w w'))
structure RA (ab c1 c2 eb : Nat) (p : Option Addr) (a : AttrD) (l : Rs) (w : World) : Prop where
  att : Blk w ab #[.string a.sp, .string a.nm, .string a.va, .int .i64 a.at'] 43
  env : Blk w c1 #[.pointer p] 60
  box : Blk w c2 #[.map (some eb)] 150
  set : RSet w eb l
  ne : ab ≠ eb
theorem RA.part {ab c1 c2 eb : Nat} {p : Option Addr} {a : AttrD} {l : Rs} {X : Nat → Prop} {w w' : World} (h : RA ab c1 c2 eb p a l w) (hp : Part X w w') (h1 : ¬ X ab) (h2 : ¬ X c1) (h3 : ¬ X c2) (h4 : ¬ X eb) : RA ab c1 c2 eb p a l w' :=
  ⟨hp.blk h.att h1, hp.blk h.env h2, hp.blk h.box h3, h.set.same (hp.block _ h.set.lt h4), h.ne⟩
theorem RA.below {ab c1 c2 eb : Nat} {p : Option Addr} {a : AttrD} {l : Rs} {w w' : World} (h : RA ab c1 c2 eb p a l w) (hb : Below w.heap.size w w') : RA ab c1 c2 eb p a l w' :=
  ⟨h.att.more hb, h.env.more hb, h.box.more hb, h.set.same (hb.block _ h.set.lt), h.ne⟩
set_option maxRecDepth 100000 in
set_option maxHeartbeats 8000000 in
theorem ns_resolveA (T nb : Nat) (E : List Fr) (sc : Sc) (N : List ByteArray) (p : Option Addr) (ab c1 c2 eb : Nat) (a : AttrD) (l : Rs) (w : World) (hT : NsT w) (hE : EnvAt T nb w E p) (hok : EnvOk N E sc) (h0 : numF N noB = some 0) (hN : N.length ≤ 1000000000) (hnm : a.nm.size ≤ 1000000) (hl : l.length ≤ 1000000000) (hR : RA ab c1 c2 eb p a l w) :
    Calls Tryd.prog 87 #[.pointer (some ⟨ab, 0, none⟩), .pointer (some ⟨c1, 0, none⟩), .pointer (some ⟨c2, 0, none⟩)] w fun e w' => ResA N (spaceA sc a.nm) (splitP a.nm).2.1 ab eb a l w e w' := by
  have cS := ns_Split a.nm w hnm hT
  have a1 : w.cell? ⟨ab, 1, none⟩ = some (.string a.nm) := hR.att.cell 1
  have hsz := split_size a.nm
  have hsA : spaceA sc a.nm = if (splitP a.nm).1 = noB then some noB else lookP sc (splitP a.nm).1 := rfl
  generalize (splitP a.nm).2.2 = ok at *
  obtain ⟨loc, hloc⟩ : ∃ loc, (splitP a.nm).2.1 = loc := ⟨_, rfl⟩
  obtain ⟨pfx, hpfx⟩ : ∃ pfx, (splitP a.nm).1 = pfx := ⟨_, rfl⟩
  rw [hloc] at cS hsz ⊢
  rw [hpfx] at cS hsz hsA
  have hls : loc.size ≤ maxLen := by unfold maxLen; omega
  have hps : pfx.size ≤ maxLen := by unfold maxLen; omega
  have HR := Lib.hid hR
  have HE := Lib.hid hE
  have HOK := Lib.hid hok
  clear hR hE hok hloc hpfx hsz hT
  by_cases hp : pfx = noB
  · rw [if_pos hp] at hsA
    rw [hsA]
    subst hp
    unfold noB at cS
    clear hsA
    go_enter Tryd.func87, Tryd.ntmps87
    go_wp2_with fail
    refine cS.mono ?_
    rintro e w1 ⟨rfl, b1⟩
    obtain ⟨W, hW⟩ : ∃ W, W = (w1.alloc (.cells #[.string ⟨#[]⟩, .int .i64 0] 98)).alloc (.cells #[.int .i64 0, .string loc] 152) := ⟨_, rfl⟩
    have bW : Below w1.heap.size w1 W := by rw [hW]; exact ((Below.refl _ _).alloc (Nat.le_refl _) _).alloc (by simp) _
    have kN : Blk W w1.heap.size #[.string ⟨#[]⟩, .int .i64 0] 98 := by rw [hW]; exact (Blk.new w1 _ _).more ((Below.refl _ _).alloc (Nat.le_refl _) _)
    have R1 := HR.out.below b1
    have RW := R1.below bW
    have hz1 := b1.size
    have hzW := bW.size
    have hk1 : W.cell? ⟨c2, 0, none⟩ = some (.map (some eb)) := RW.box.cell 0
    have hlook : (Instr.lookup 150 (.map (some eb)) (.agg #[.int .i64 0, .string loc]) false).run Tryd.prog W = .ok (.bool (hasR l 0 loc)) W := RW.set.look 0 loc (by omega) hls
    have hkey : keyOf Tryd.prog 152 (.agg #[.int .i64 0, .string loc]) = some (rL 0 loc) := rkey 0 loc (by omega) hls
    have HB1 := Lib.hid b1
    have HBW := Lib.hid bW
    have HRW := Lib.hid RW
    have HKN := Lib.hid kN
    have hset := RW.set.1
    clear b1 bW R1 RW kN
    cases hh : hasR l 0 loc with
    | true =>
      rw [hh] at hlook
      have HF : Hid (Below w.heap.size w W) := Lib.hid (HB1.out.trans (HBW.out.mono hz1))
      have HH := Lib.hid hh
      clear hh hset
      subst hW
      go_wp2
      exact bodyPost_ret (v := .int .i64 10) (by simp [results, Tryd.results87, go_sem]) rfl (.inr ⟨noB, 0, rfl, h0, .inl ⟨HH.out, rfl, HF.out⟩⟩)
    | false =>
      rw [hh] at hlook
      have HH := Lib.hid hh
      clear hh
      have hWz : W.heap.size = w1.heap.size + 2 := by rw [hW]; simp
      have hab := HRW.out.att.lt
      have heb := HRW.out.set.lt
      have hne := HR.out.ne
      have habw := HR.out.att.lt
      have hebw := HR.out.set.lt
      have HWZ := Lib.hid hWz
      clear hWz
      subst hW
      go_wp2_with (first | (at_mapUpdate; refine wpList_mapUpdate_own _ rfl _ _ _ 150 rfl 152 4 rlaw Tryd.underlying150 (plainElem (H := Unit) Tryd.prog 4) eb l.length (rsD l) rfl hset (by unfold maxLen; omega) _ _ _ rfl rfl hkey _ [] (plainElem_bool Tryd.underlying4 true) ?_; intro w6 hm6 hg6; have P6 := (Part.refl (fun i => i = eb) _).grown hg6 (fun b hb => .inl (Option.some.inj hb).symm); have kB := P6.blk HRW.out.att hne; have g0 := kB.cell 0; have g1 := kB.cell 1; have f0 := kB.fr 0; have f1 := kB.fr 1; have kC := P6.blk HKN.out (by omega); have s0 := kC.cell 0; have HK6 := Lib.hid kB; have HM6 := Lib.hid hm6; have HP6 := Lib.hid P6; clear P6 kB kC hm6 hg6))
      refine bodyPost_ret (v := .int .i64 0) (by simp [results, Tryd.results87, go_sem]) rfl (.inr ⟨noB, 0, rfl, h0, .inr ⟨HH.out, rfl, (HK6.out.set 0 _).set 1 _, ?_, ?_⟩⟩)
      · have hm : RSet w6 eb ((0, loc) :: l) := ⟨HM6.out, fun y hy => by
          rcases List.mem_cons.1 hy with rfl | hy
          · exact ⟨by omega, hls⟩
          · exact HRW.out.set.2 y hy⟩
        exact hm.same (by rw [Below.heap_setCell _ _ _ _ (show eb ≠ ab from fun e => hne e.symm), Below.heap_setCell _ _ _ _ (show eb ≠ ab from fun e => hne e.symm)])
      · exact (((((Part.of (X := fun i => i = ab ∨ i = eb) (HB1.out.trans (HBW.out.mono hz1)))).trans HP6.out (fun _ _ e => .inr e)).set (q := ⟨ab, 0, none⟩) (.inl (.inl rfl)) _).set (q := ⟨ab, 1, none⟩) (.inl (.inl rfl)) _)
  · rw [if_neg hp] at hsA
    rw [hsA]
    have hpe : pfx.toList.isEmpty = false := by cases hl : pfx.toList with | nil => exact absurd (kstr_ext (by rw [← blist, hl]; rfl)) hp | cons x r => rfl
    have hlk := (HOK.out pfx).1
    have hnk := (HOK.out pfx).2
    clear hsA hp
    go_enter Tryd.func87, Tryd.ntmps87
    go_wp2_with fail
    refine cS.mono ?_
    rintro e w1 ⟨rfl, b1⟩
    have bA : Below w1.heap.size w1 (w1.alloc (.cells #[.string ⟨#[]⟩, .int .i64 0] 98)) := (Below.refl _ _).alloc (Nat.le_refl _) _
    have kA : Blk (w1.alloc (.cells #[.string ⟨#[]⟩, .int .i64 0] 98)) w1.heap.size #[.string ⟨#[]⟩, .int .i64 0] 98 := Blk.new w1 _ _
    have R1 := HR.out.below b1
    have R2 := R1.below bA
    have E2 := EnvAt.part (X := fun _ => False) (Part.of (b1.trans (bA.mono b1.size))) (fun _ x => x.elim) E p HE.out
    have cF := ns_find T nb E p pfx _ E2 hps
    have d1 : (w1.alloc (.cells #[.string ⟨#[]⟩, .int .i64 0] 98)).cell? ⟨c1, 0, none⟩ = some (.pointer p) := R2.env.cell 0
    have hz1 := b1.size
    have hab1 := R1.att.lt
    have hc11 := R1.env.lt
    have hc21 := R1.box.lt
    have heb1 := R1.set.lt
    have HB1 := Lib.hid b1
    have HBA := Lib.hid bA
    have HR2 := Lib.hid R2
    have HKA := Lib.hid kA
    clear b1 bA R1 R2 E2 kA
    cases hf : findE E pfx with
    | none =>
      rw [hf] at cF hlk
      simp only [nsVal, Option.isSome] at cF
      have hlk' : lookP sc pfx = none := hlk.symm
      have HLK := Lib.hid hlk'
      clear hf hlk hlk' hnk
      go_wp2_with fail
      refine cF.mono ?_
      rintro e w3 ⟨rfl, b3⟩
      have k3 := HKA.out.more b3
      have s0 := k3.cell 0
      have s1 := k3.cell 1
      have f0 := k3.fr 0
      have f1 := k3.fr 1
      have B3 : Hid (Below w.heap.size w w3) := Lib.hid ((HB1.out.trans (HBA.out.mono hz1)).trans (b3.mono (by have := HBA.out.size; omega)))
      clear b3 k3
      go_wp2
      exact bodyPost_ret (v := .int .i64 13) (by simp [results, Tryd.results87, go_sem]) rfl (.inl ⟨HLK.out, rfl, (B3.out.setCell (p := ⟨w1.heap.size, 0, none⟩) hz1 _).setCell (p := ⟨w1.heap.size, 1, none⟩) hz1 _⟩)
    | some xk =>
      obtain ⟨x, k⟩ := xk
      have hnk' := hnk x k hf
      rw [hf] at cF hlk
      simp only [nsVal, Option.isSome] at cF
      have hlk' : lookP sc pfx = some x := hlk.symm
      have HNK := Lib.hid hnk'
      have hkl := numF_lt N x k hnk'
      have HLK := Lib.hid hlk'
      clear hf hlk hlk' hnk hnk'
      go_wp2_with fail
      refine cF.mono ?_
      rintro e w3 ⟨rfl, b3⟩
      have k3 := HKA.out.more b3
      have z0 := k3.cell 0
      have z1 := k3.cell 1
      have y0 := k3.fr 0
      have y1 := k3.fr 1
      have R3 := HR2.out.below b3
      have B3 : Below w.heap.size w w3 := (HB1.out.trans (HBA.out.mono hz1)).trans (b3.mono (by have := HBA.out.size; omega))
      have hz3 := b3.size
      have hzA := HBA.out.size
      obtain ⟨W, hW⟩ : ∃ W, W = ((w3.setCell ⟨w1.heap.size, 0, none⟩ (.string x)).setCell ⟨w1.heap.size, 1, none⟩ (.int .i64 (k : Int))).alloc (.cells #[.int .i64 (k : Int), .string loc] 152) := ⟨_, rfl⟩
      have PW : Part (fun i => i = w1.heap.size) w3 W := by rw [hW]; exact (((Part.refl (fun i => i = w1.heap.size) w3).set (q := ⟨w1.heap.size, 0, none⟩) (.inl rfl) _).set (q := ⟨w1.heap.size, 1, none⟩) (.inl rfl) _).alloc _
      have kN : Blk W w1.heap.size #[.string x, .int .i64 (k : Int)] 98 := by rw [hW]; exact ((k3.set 0 (.string x)).set 1 (.int .i64 (k : Int))).more ((Below.refl _ _).alloc (Nat.le_refl _) _)
      have RW := R3.part PW (by omega) (by omega) (by omega) (by omega)
      have BW : Below w.heap.size w W := PW.below B3 (fun i hi => by omega) (by omega)
      have hk1 : W.cell? ⟨c2, 0, none⟩ = some (.map (some eb)) := RW.box.cell 0
      have hlook : (Instr.lookup 150 (.map (some eb)) (.agg #[.int .i64 (k : Int), .string loc]) false).run Tryd.prog W = .ok (.bool (hasR l k loc)) W := RW.set.look k loc (by omega) hls
      have hkey : keyOf Tryd.prog 152 (.agg #[.int .i64 (k : Int), .string loc]) = some (rL k loc) := rkey k loc (by omega) hls
      have HRW := Lib.hid RW
      have HKN := Lib.hid kN
      have HBW := Lib.hid BW
      have hset := RW.set.1
      have HW := Lib.hid hW
      clear b3 k3 R3 B3 PW RW kN BW
      cases hh : hasR l k loc with
      | true =>
        rw [hh] at hlook
        have HH := Lib.hid hh
        clear hh hset HW
        subst hW
        go_wp2
        exact bodyPost_ret (v := .int .i64 10) (by simp [results, Tryd.results87, go_sem]) rfl (.inr ⟨x, k, HLK.out, HNK.out, .inl ⟨HH.out, rfl, HBW.out⟩⟩)
      | false =>
        rw [hh] at hlook
        have HH := Lib.hid hh
        have hab := HRW.out.att.lt
        have heb := HRW.out.set.lt
        have hne := HR.out.ne
        clear hh HW
        subst hW
        go_wp2_with (first | (at_mapUpdate; refine wpList_mapUpdate_own _ rfl _ _ _ 150 rfl 152 4 rlaw Tryd.underlying150 (plainElem (H := Unit) Tryd.prog 4) eb l.length (rsD l) rfl hset (by unfold maxLen; omega) _ _ _ rfl rfl hkey _ [] (plainElem_bool Tryd.underlying4 true) ?_; intro w6 hm6 hg6; have P6 := (Part.refl (fun i => i = eb) _).grown hg6 (fun b hb => .inl (Option.some.inj hb).symm); have kB := P6.blk HRW.out.att hne; have g0 := kB.cell 0; have g1 := kB.cell 1; have f0 := kB.fr 0; have f1 := kB.fr 1; have kC := P6.blk HKN.out (by omega); have s0 := kC.cell 0; have HK6 := Lib.hid kB; have HM6 := Lib.hid hm6; have HP6 := Lib.hid P6; clear P6 kB kC hm6 hg6))
        refine bodyPost_ret (v := .int .i64 0) (by simp [results, Tryd.results87, go_sem]) rfl (.inr ⟨x, k, HLK.out, HNK.out, .inr ⟨HH.out, rfl, (HK6.out.set 0 _).set 1 _, ?_, ?_⟩⟩)
        · have hm : RSet w6 eb ((k, loc) :: l) := ⟨HM6.out, fun y hy => by
            rcases List.mem_cons.1 hy with rfl | hy
            · exact ⟨by omega, hls⟩
            · exact HRW.out.set.2 y hy⟩
          exact hm.same (by rw [Below.heap_setCell _ _ _ _ (show eb ≠ ab from fun e => hne e.symm), Below.heap_setCell _ _ _ _ (show eb ≠ ab from fun e => hne e.symm)])
        · exact (((((Part.of (X := fun i => i = ab ∨ i = eb) HBW.out)).trans HP6.out (fun _ _ e => .inr e)).set (q := ⟨ab, 0, none⟩) (.inl (.inl rfl)) _).set (q := ⟨ab, 1, none⟩) (.inl (.inl rfl)) _)
end Go.Proofs.YtoehcholbcchcaaDoor
end
