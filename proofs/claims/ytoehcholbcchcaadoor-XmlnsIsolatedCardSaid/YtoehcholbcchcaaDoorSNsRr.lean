/- Packed from the texts NsRr. -/
import Derived.Test.YtoehcholbcchcaaDoorSNsRh
import Derived.Test.YtoehcholbcchcaaDoorSkD
import Derived.Test.YtoehcholbcchcaaDoorSkJ
import Derived.Test.YtoehcholbcchcaaDoorSkK
import Derived.Deep.AppendLies
section
namespace Go.Proofs.YtoehcholbcchcaaDoor
open Go.RowKit
def RefR (X : List Nat) (R : NodeD × Int × Int) (w : World) (e : Ending) (w' : World) : Prop := ∃ v, e = .returned (.tuple #[v, .int .i64 R.2.1, .int .i64 R.2.2]) ∧ NodeIs (holes w' X) R.1 v ∧ Below w.heap.size w w'
def RefAt (n : NodeD) : Prop := ∀ (X : List Nat) (v : Value) (L : List Bd) (pb : Option Addr) (cb lo : Nat) (w : World), (∀ b ∈ X, b < w.heap.size) → NodeIs (holes w X) n v → w.ownsRow lo 137 2 (.slice pb L.length cb) L.length (bdsCells L) → L.length + n.acnt ≤ 900000000 →
  Calls Tryd.prog 31 #[v, .slice pb L.length cb] w fun e w' => RefR X (resP L.reverse n) w e w'
structure RL (X : List Nat) (W : World) (R M : Nat) (sp loc : ByteArray) (al : List AttrD) (pa : Option Addr) (ca : Nat) (at' : Int) (done : List NodeD) (vk : Value) (xs : List Value) (w : World) : Prop where
  res : Blk w R nodeZs 29
  out : Blk w M #[.int .i64 0, .string sp, .string loc, .slice pa al.length ca, vk, .string ⟨#[]⟩, .int .i64 at'] 29
  row : w.ownsRow W.heap.size 29 7 vk done.length xs
  kids : KRow (holes w (X ++ [R, M] ++ vk.ownBlock.toList)) done xs
  keep : Keep M W w
  ltR : R < W.heap.size
  ltM : M < W.heap.size
  ne : R ≠ M
section
variable {X : List Nat} {W : World} {R M : Nat} {sp loc : ByteArray} {al : List AttrD} {pa : Option Addr} {ca : Nat} {at' : Int} {done : List NodeD} {vk : Value} {xs : List Value} {w : World}
theorem RL.below (h : RL X W R M sp loc al pa ca at' done vk xs w) {w' : World} (hb : Below w.heap.size w w') : RL X W R M sp loc al pa ca at' done vk xs w' :=
  ⟨h.res.more hb, h.out.more hb, row_below h.row hb, KRow.go (Goes.below hb) _ _ h.kids, h.keep.more hb, h.ltR, h.ltM, h.ne⟩
theorem RL.own (h : RL X W R M sp loc al pa ca at' done vk xs w) {w' : World} {p : Nat} (hp : W.heap.size ≤ p) (hv : vk.ownBlock ≠ some p) (hk : Keep p w w') (hgo : KRow (holes w (X ++ [R, M, p] ++ vk.ownBlock.toList)) done xs) : RL X W R M sp loc al pa ca at' done vk xs w' := by
  have h1 := h.ltR
  have h2 := h.ltM
  refine ⟨h.res.keep hk (by omega), h.out.keep hk (by omega), rowSame h.row (fun g hg => hk.block g (row_kind h.row g hg).2.1 (fun e => hv (e ▸ hg))), ?_, ⟨hk.os.trans h.keep.os, hk.tape.trans h.keep.tape, hk.output.trans h.keep.output, Nat.le_trans h.keep.size hk.size, fun k hk1 hk2 => (hk.block k (Nat.lt_of_lt_of_le hk1 h.keep.size) (by omega)).trans (h.keep.block k hk1 hk2)⟩, h1, h2, h.ne⟩
  refine KRow.go (fun b hb1 hb2 => ⟨fun e => hb2 ?_, hk.block b hb1 (fun e => hb2 ?_)⟩) _ _ hgo
  · rcases List.mem_append.1 e with e | e
    · rcases List.mem_append.1 e with e | e
      · exact List.mem_append_left _ (List.mem_append_left _ e)
      · refine List.mem_append_left _ (List.mem_append_right _ ?_)
        simp at e ⊢
        omega
    · exact List.mem_append_right _ e
  · rw [e]
    exact List.mem_append_left _ (List.mem_append_right _ (by simp))
theorem RL.push (h : RL X W R M sp loc al pa ca at' done vk xs w) {k : NodeD} {c0 c1 c2 c3 c4 c5 c6 v5 : Value} {w4 : World} (hg : w.grownBy w4 vk.ownBlock)
    (hk : NodeIs (holes w (X ++ [R, M] ++ vk.ownBlock.toList)) k (.agg #[c0, c1, c2, c3, c4, c5, c6]))
    (hr : w4.ownsRow W.heap.size 29 7 v5 (done.length + 1) (xs ++ [c0, c1, c2, c3, c4, c5, c6]))
    (hnew : ∀ g, v5.ownBlock = some g → vk.ownBlock = some g ∨ w.heap.size ≤ g) :
    RL X W R M sp loc al pa ca at' (done ++ [k]) v5 (xs ++ [c0, c1, c2, c3, c4, c5, c6]) (w4.setCell ⟨M, 4, none⟩ v5) := by
  have h1 := h.ltR
  have h2 := h.ltM
  have hrk : ∀ k, vk.ownBlock = some k → W.heap.size ≤ k := fun k hk => (row_kind h.row k hk).1
  have res4 : Blk w4 R nodeZs 29 := (hg.block R h.res.lt (fun e => by have := hrk R e.symm; omega)).trans h.res
  have out4 : Blk w4 M _ 29 := (hg.block M h.out.lt (fun e => by have := hrk M e.symm; omega)).trans h.out
  have hgo : Goes w (X ++ [R, M] ++ vk.ownBlock.toList) (w4.setCell ⟨M, 4, none⟩ v5) (X ++ [R, M] ++ v5.ownBlock.toList) := fun b hb1 hb2 => by
    refine ⟨fun e => ?_, (Below.heap_setCell _ _ _ _ (fun e => ?_)).trans (hg.block b hb1 (fun e => hb2 (List.mem_append_right _ (by rw [← e]; simp))))⟩
    · rcases List.mem_append.1 e with e | e
      · exact hb2 (List.mem_append_left _ e)
      · have hv : v5.ownBlock = some b := by simpa using e
        rcases hnew b hv with h3 | h3
        · exact hb2 (List.mem_append_right _ (by rw [h3]; simp))
        · omega
    · exact hb2 (List.mem_append_left _ (List.mem_append_right _ (by rw [show b = M from e]; simp)))
  refine ⟨res4.own (q := ⟨M, 4, none⟩) (Ne.symm h.ne) _, out4.set 4 v5, ?_, KRow.snoc (hk.go hgo) _ _ (KRow.go hgo _ _ h.kids), (h.keep.grown hg hrk).set 4 _, h1, h2, h.ne⟩
  rw [List.length_append, List.length_singleton]
  exact ((Keep.refl M w4).set 4 _).row hr h2
theorem RL.node (h : RL X W R M sp loc al pa ca at' done vk xs w) (hA : AttrsAt (holes w (X ++ [R])) pa al) (hX : ∀ b ∈ X, b < W.heap.size) : NodeIs (holes w (X ++ [R])) (.mk 0 sp loc al done ⟨#[]⟩ at') (.agg #[.int .i64 0, .string sp, .string loc, .slice pa al.length ca, vk, .string ⟨#[]⟩, .int .i64 at']) := by
  have h1 := h.ltR
  obtain ⟨pk, ck, rfl, hk⟩ := row_kids (L' := X ++ [R]) h.row h.kids (fun b hb => by
    rcases List.mem_append.1 hb with hb | hb
    · exact List.mem_append_left _ (List.mem_append_left _ hb)
    · exact List.mem_append_left _ (List.mem_append_right _ (by simp at hb; simp [hb]))) (fun g hg e => by
    have := (own_lt h.row g (by rw [hg]; simp)).1
    rcases List.mem_append.1 e with e | e
    · have := hX g e; omega
    · simp at e; omega)
  exact (node_is _ _ _).2 ⟨pa, ca, pk, ck, rfl, hA, hk⟩
end
theorem node_news (w : World) (t : TypeId) (c0 c1 c2 c3 c4 c5 c6 : Value) : ∀ j u, ([c0, c1, c2, c3, c4, c5, c6] : List Value)[j]? = some u → (w.alloc (.cells #[c0, c1, c2, c3, c4, c5, c6] t)).cell? ((⟨w.heap.size, 0, none⟩ : Addr).add j) = some u := by
  intro j u hu
  rw [addr_add, World.cell?_alloc_at _ _ _ _ rfl, List.getElem?_toArray]
  exact hu
set_option maxRecDepth 100000 in
set_option maxHeartbeats 16000000 in
theorem nref_resolve : ∀ (F : Nat) (n : NodeD), n.cnt ≤ F → n.cnt ≤ 1000000 → n.acnt ≤ 10000000 → n.kind = 0 → NmOk 100000 n → StrOk 40000000000 n → RefAt n
  | 0, n, hf, _, _, _, _, _ => absurd hf (by have := cnt_eq n; omega)
  | F + 1, n, hf, hc, hac, hk0, hNm, hSt => by
    intro X v L pb cb lo w hX hn hR hl
    obtain ⟨i0, hi0, hi1, hi3, hi4⟩ := info_parts kinfo_node
    have hae := acnt_eq n
    have hce := cnt_eq n
    obtain ⟨hn1, hn2, hn3, hn4⟩ := (nmok_eq 100000 n).1 hNm
    obtain ⟨hs1, hs2, hs3, -⟩ := (strok_eq _ n).1 hSt
    have IH : ∀ k ∈ n.kids, k.kind = 0 → RefAt k := fun k hk h0 => nref_resolve F k (by have := cnt_kid n k hk; omega) (by have := cnt_kid n k hk; omega) (by have := acnts_mem _ k hk; omega) h0 (nmoks_mem _ _ hn3 k hk) (stroks_mem _ _ hs3 k hk)
    have hAO : AtOk n.al := fun x hx => ⟨by have := hn2 x hx; omega, by have := hs2 x hx; unfold maxLen; omega⟩
    have htx := hn4 hk0
    have hkl : n.kids.length ≤ 1000000 := by have := cnts_length n.kids; omega
    obtain ⟨pa, ca, pk, ck, rfl, hA, hK⟩ := (node_is _ n _).1 hn
    obtain ⟨W0, hW0⟩ : ∃ W0, W0 = (w.alloc (.cells #[.int .i64 n.kind, .string n.sp, .string n.nm, .slice pa n.al.length ca, .slice pk n.kids.length ck, .string n.tx, .int .i64 n.at'] 29)).alloc (.cells nodeZs 29) := ⟨_, rfl⟩
    have hz1 : (w.alloc (.cells #[.int .i64 n.kind, .string n.sp, .string n.nm, .slice pa n.al.length ca, .slice pk n.kids.length ck, .string n.tx, .int .i64 n.at'] 29)).heap.size = w.heap.size + 1 := by simp
    have b0 : Below w.heap.size w W0 := by rw [hW0]; exact ((Below.refl _ _).alloc (Nat.le_refl _) _).alloc (by simp) _
    have kN : Blk W0 w.heap.size #[.int .i64 n.kind, .string n.sp, .string n.nm, .slice pa n.al.length ca, .slice pk n.kids.length ck, .string n.tx, .int .i64 n.at'] 29 := by rw [hW0]; exact (Blk.new w _ _).more ((Below.refl _ _).alloc (Nat.le_refl _) _)
    have kR : Blk W0 (w.heap.size + 1) nodeZs 29 := by
      have := Blk.new (w.alloc (.cells #[.int .i64 n.kind, .string n.sp, .string n.nm, .slice pa n.al.length ca, .slice pk n.kids.length ck, .string n.tx, .int .i64 n.at'] 29)) nodeZs 29
      rw [hz1] at this
      rw [hW0]
      exact this
    have hzWa : w.heap.size + 1 < W0.heap.size := by rw [hW0]; simp
    have hzWb : W0.heap.size ≤ w.heap.size + 2 := by rw [hW0]; simp
    have hAf : AttrsAt W0 pa n.al := (hA.mono (fun _ _ hc => (holes_cell hc).1)).below b0
    have cH := nref_head n pa ca pk ck L pb cb lo W0 hAf hAO (by omega) (by omega) (row_below hR b0) (by omega)
    have f0 := kN.cell 0
    have f1 := kN.cell 1
    have f2 := kN.cell 2
    have f3 := kN.cell 3
    have f4 := kN.cell 4
    have f5 := kN.cell 5
    have f6 := kN.cell 6
    simp only [List.getElem?_toArray, List.getElem?_cons_succ, List.getElem?_cons_zero] at f0 f1 f2 f3 f4 f5 f6
    have HB0 := Lib.hid b0
    have HKN := Lib.hid kN
    have HKR := Lib.hid kR
    have HK := Lib.hid hK
    have HIH := Lib.hid IH
    have HX := Lib.hid hX
    have HK0 := Lib.hid (And.intro hk0 htx)
    clear hNm hSt hn1 hn2 hn3 hn4 hs1 hs2 hs3 IH hAO htx hn hA hK hAf hR b0 kN kR hz1 hX hk0
    go_enter Tryd.func31, Tryd.ntmps31
    go_upto_region 1 with fail
    simp only [nodeZs] at hW0
    simp only [← hW0]
    clear hW0
    go_wp2_with fail
    refine cH.mono ?_
    rintro e w1 ⟨b1, ⟨a, er, s0, s1, p3, n3, c3, her, hE, rfl⟩ | ⟨sp, acc, pa', ca', L', pb', cb', hE, rfl, hrA, hrB, hlL⟩⟩
    · have herb : (er != 0) = true := by simpa using her
      have HE := Lib.hid hE
      obtain ⟨⟨r0, r1, r2, r3, r4, r5, r6⟩, g0, g1, g2, g3, g4, g5, g6⟩ := ((HKR.out.more b1).more ((Below.refl _ _).alloc (Nat.le_refl _) (.cells #[.int .i64 0, .string s0, .string s1, .slice p3 n3 c3, .slice none 0 0, .string ⟨#[]⟩, .int .i64 n.at'] 29))).seven
      have HB1 := Lib.hid (HB0.out.trans (b1.mono (by omega)))
      clear hE her b1 cH f0 f1 f2 f3 f4 f5 f6
      go_wp2
      refine bodyPost_ret (v := .tuple #[.agg #[.int .i64 0, .string ⟨#[]⟩, .string ⟨#[]⟩, .slice none 0 0, .slice none 0 0, .string ⟨#[]⟩, .int .i64 0], .int .i64 a, .int .i64 er]) (by simp [results, Tryd.results31, go_sem, cell_set_same, r0, r1, r2, r3, r4, r5, r6]) rfl ?_
      rw [HE.out]
      exact ⟨_, rfl, zero_le7 _, below7 (HB1.out.alloc HB1.out.size _) (by omega) _ _ _ _ _ _ _⟩
    · have hb1 := HB0.out.trans (b1.mono (by omega))
      have hz1 := b1.size
      obtain ⟨R, hRe⟩ : ∃ R, R = w.heap.size + 1 := ⟨_, rfl⟩
      obtain ⟨M, hMe⟩ : ∃ M, M = w1.heap.size := ⟨_, rfl⟩
      obtain ⟨hs, hhs⟩ : ∃ hs, hs = w.heap.size := ⟨_, rfl⟩
      obtain ⟨W1, hW1⟩ : ∃ W1, W1 = w1.alloc (.cells #[.int .i64 0, .string sp, .string (splitP n.nm).2.1, .slice pa' acc.length ca', .slice none 0 0, .string ⟨#[]⟩, .int .i64 n.at'] 29) := ⟨_, rfl⟩
      obtain ⟨loc, hloc⟩ : ∃ loc, (splitP n.nm).2.1 = loc := ⟨_, rfl⟩
      have bW1 : Below w1.heap.size w1 W1 := by rw [hW1]; exact (Below.refl _ _).alloc (Nat.le_refl _) _
      have hzW1 : W1.heap.size = M + 1 := by rw [hW1, hMe]; simp
      have RL0 : RL X W1 R M sp loc acc pa' ca' n.at' [] (.slice none ([] : List NodeD).length 0) [] W1 := by
        refine ⟨by rw [hRe]; exact (HKR.out.more b1).more bW1, ?_, World.ownsRow_nil _ _ _ _, rfl, Keep.refl _ _, by omega, by omega, by omega⟩
        rw [hW1, hMe, ← hloc]
        exact Blk.new w1 _ _
      have hzWc : w1.heap.size < W1.heap.size := by omega
      have hzWd : W1.heap.size ≤ w1.heap.size + 1 := by omega
      have HNB : Hid (Blk W1 hs #[.int .i64 n.kind, .string n.sp, .string n.nm, .slice pa n.al.length ca, .slice pk n.kids.length ck, .string n.tx, .int .i64 n.at'] 29) := Lib.hid (by rw [hhs]; exact (HKN.out.more b1).more bW1)
      have HBW := Lib.hid (hb1.trans (bW1.mono (by omega)))
      have HRA := Lib.hid (row_below hrA bW1)
      have HRB := Lib.hid (row_below hrB bW1)
      have HRL2 := Lib.hid (show ∀ g, (Value.slice pb' L'.length cb').ownBlock = some g → g < M from fun g hg => by have := (row_kind hrB g hg).2.1; omega)
      have HRL1 := Lib.hid (show ∀ g, (Value.slice pa' acc.length ca').ownBlock = some g → W0.heap.size ≤ g ∧ g < M from fun g hg => by have := row_kind hrA g hg; exact ⟨this.1, by have := this.2.1; omega⟩)
      have HE := Lib.hid hE
      have H0 := Lib.hid RL0
      have HLO := Lib.hid hloc
      clear hE b1 cH f0 f1 f2 f3 f4 f5 f6 bW1 RL0 hrA hrB hb1 HKN HKR hzW1
      rw [hloc]
      subst hRe
      subst hhs
      subst hMe
      go_upto_region 2 with fail
      rw [hloc] at hW1
      simp only [← hW1]
      clear hW1 hloc
      go_wp2
      go_loopw [11] (fun q wr => ∃ (i : Nat) (done : List NodeD) (pv : Option Addr) (cv : Nat) (xs : List Value), i ≤ n.kids.length ∧ q = .int .i64 i ∧ resKids L'.reverse n.kids = joinK done (resKids L'.reverse (n.kids.drop i)) ∧ done.length ≤ i ∧ RL X W1 (w.heap.size + 1) w1.heap.size sp loc acc pa' ca' n.at' done (.slice pv done.length cv) xs wr) (fun q _ => n.kids.length - (intOf q).toNat)
      case atStart => exact ⟨0, [], none, 0, [], Nat.zero_le _, rfl, by rw [List.drop_zero, joinK_nil _ (resKids_zero _ _).1 (resKids_zero _ _).2], Nat.le_refl _, H0.out⟩
      case round =>
        obtain ⟨i, done, pv, cv, xs, hi, rfl, hks, hdl, hRL⟩ := hrel
        have hz := hRL.keep.size
        have kN := HNB.out.keep hRL.keep (by omega)
        have f4 := kN.cell 4
        simp only [List.getElem?_toArray, List.getElem?_cons_succ, List.getElem?_cons_zero] at f4
        have bwr : Below w.heap.size w wr := hRL.keep.below HBW.out (by omega) (by omega)
        have hMr : w1.heap.size < wr.heap.size := hRL.out.lt
        by_cases hlt : i < n.kids.length
        · have hiz : (i : Int) < (n.kids.length : Int) := by omega
          rw [List.drop_eq_getElem_cons hlt] at hks
          have hkm : n.kids[i] ∈ n.kids := List.getElem_mem _
          have hkc := acnts_mem _ _ hkm
          have hgo : Goes w X wr (X ++ [w.heap.size + 1, w1.heap.size] ++ (Value.slice pv done.length cv).ownBlock.toList) := fun b hb1 hb2 => by
            refine ⟨fun e => ?_, bwr.block b hb1⟩
            rcases List.mem_append.1 e with e | e
            · rcases List.mem_append.1 e with e | e
              · exact hb2 e
              · simp at e; omega
            · have := (own_lt hRL.row b e).1; omega
          obtain ⟨ad, v0, v1, v2, v3, v4, v5, v6, rfl, ⟨q0, q1, q2, q3, q4, q5, q6⟩, hkn⟩ := KidsAt.get n.kids 0 (KidsAt.mono (fun a u => hgo.cell a u) _ _ _ HK.out) i hlt
          replace q0 := (holes_cell q0).1
          replace q1 := (holes_cell q1).1
          replace q2 := (holes_cell q2).1
          replace q3 := (holes_cell q3).1
          replace q4 := (holes_cell q4).1
          replace q5 := (holes_cell q5).1
          replace q6 := (holes_cell q6).1
          rw [Nat.zero_add] at q0 q1 q2 q3 q4 q5 q6
          obtain ⟨k, hk⟩ : ∃ k, n.kids[i] = k := ⟨_, rfl⟩
          have hIHk := HIH.out n.kids[i] hkm
          rw [hk] at hkn hks hkc hIHk
          obtain ⟨ka, da, kk, dk, hv⟩ := node_form hkn
          simp only [Value.agg.injEq, Array.mk.injEq, List.cons.injEq, and_true] at hv
          obtain ⟨rfl, rfl, rfl, rfl, rfl, rfl, rfl⟩ := hv
          obtain ⟨cc, hcc⟩ : ∃ c, ad.add (i * 7) = c := ⟨_, rfl⟩
          rw [hcc] at q0 q1 q2 q3 q4 q5 q6
          simp only [Addr.add, Nat.reduceEqDiff, ↓reduceIte] at q1 q2 q3 q4 q5 q6
          obtain ⟨w2, hw2⟩ : ∃ w2, w2 = wr.alloc (.cells #[.int .i64 k.kind, .string k.sp, .string k.nm, .slice ka k.al.length da, .slice kk k.kids.length dk, .string k.tx, .int .i64 k.at'] 29) := ⟨_, rfl⟩
          have b2 : Below wr.heap.size wr w2 := by rw [hw2]; exact (Below.refl _ _).alloc (Nat.le_refl _) _
          have kP : Blk w2 wr.heap.size #[.int .i64 k.kind, .string k.sp, .string k.nm, .slice ka k.al.length da, .slice kk k.kids.length dk, .string k.tx, .int .i64 k.at'] 29 := by rw [hw2]; exact Blk.new wr _ _
          have hz2 : wr.heap.size < w2.heap.size := by rw [hw2]; simp
          have HRL := Lib.hid hRL
          have HKP := Lib.hid kP
          have HB2 := Lib.hid b2
          have HKNW := Lib.hid hkn
          have HBWR := Lib.hid bwr
          have hy0 := kP.cell 0
          have hy1 := kP.cell 1
          have hy2 := kP.cell 2
          have hy3 := kP.cell 3
          have hy4 := kP.cell 4
          have hy5 := kP.cell 5
          have hy6 := kP.cell 6
          simp only [List.getElem?_toArray, List.getElem?_cons_succ, List.getElem?_cons_zero] at hy0 hy1 hy2 hy3 hy4 hy5 hy6
          by_cases hkk : k.kind = 0
          · have hkb : (k.kind == 0) = true := by rw [hkk]; rfl
            have cR := hIHk hkk (X ++ [w.heap.size + 1, w1.heap.size] ++ (Value.slice pv done.length cv).ownBlock.toList ++ [wr.heap.size]) _ L' pb' cb' W0.heap.size w2 (fun b hb => by
                rcases List.mem_append.1 hb with hb | hb
                · rcases List.mem_append.1 hb with hb | hb
                  · rcases List.mem_append.1 hb with hb | hb
                    · have := HX.out b hb; omega
                    · simp at hb; omega
                  · have := (own_lt hRL.row b hb).2; omega
                · simp at hb; omega) (hkn.go (fun b hb1 hb2 => ⟨fun e => by
                rcases List.mem_append.1 e with e | e
                · exact hb2 e
                · simp at e; omega, b2.block b hb1⟩)) (row_below (rowSame HRB.out (fun g hg => hRL.keep.block g (by have := HRL2.out g hg; omega) (by have := HRL2.out g hg; omega))) b2) (by omega)
            have HKS0 := Lib.hid hks
            have hdl0 := hdl
            have HKK := Lib.hid hkk
            clear hkn hks hRL kP b2 bwr hgo hIHk hk hkm hdl hkk
            go_upto_region 8 with fail
            simp only [← hw2]
            clear hw2
            go_wp2_with fail
            refine cR.mono ?_
            rintro e w3 ⟨v3, rfl, hn3, b3⟩
            obtain ⟨Q, hQ⟩ : ∃ Q, resP L'.reverse k = Q := ⟨_, rfl⟩
            rw [hQ] at hn3 ⊢
            obtain ⟨ea, da2, ek, dk2, rfl⟩ := node_form hn3
            have kP3 := HKP.out.more b3
            have p0 := kP3.cell 0
            have p1 := kP3.cell 1
            have p2 := kP3.cell 2
            have p3 := kP3.cell 3
            have p4 := kP3.cell 4
            have p5 := kP3.cell 5
            have p6 := kP3.cell 6
            simp only [List.getElem?_toArray, List.getElem?_cons_succ, List.getElem?_cons_zero] at p0 p1 p2 p3 p4 p5 p6
            have s0 := kP3.fr 0
            have s1 := kP3.fr 1
            have s2 := kP3.fr 2
            have s3 := kP3.fr 3
            have s4 := kP3.fr 4
            have s5 := kP3.fr 5
            have s6 := kP3.fr 6
            have hz3 := b3.size
            have HN3 := Lib.hid hn3
            have HB3 := Lib.hid (HB2.out.trans (b3.mono HB2.out.size))
            have HKP3 := Lib.hid kP3
            have HQ := Lib.hid hQ
            clear hn3 b3 kP3 hQ cR hy0 hy1 hy2 hy3 hy4 hy5 hy6
            have hks := HKS0.out
            by_cases hex : Q.2.2 = 0
            · have hexb : (Q.2.2 != 0) = false := by rw [hex]; rfl
              have hks2 := hks.trans (by rw [resKids_elem _ _ _ HKK.out (by rw [HQ.out]; exact hex), joinK_join, HQ.out])
              have HKS := Lib.hid hks2
              obtain ⟨w4, hw4⟩ : ∃ w4, w4 = ((((((w3.setCell ⟨wr.heap.size, 0, none⟩ (.int .i64 Q.1.kind)).setCell ⟨wr.heap.size, 1, none⟩ (.string Q.1.sp)).setCell ⟨wr.heap.size, 2, none⟩ (.string Q.1.nm)).setCell ⟨wr.heap.size, 3, none⟩ (.slice ea Q.1.al.length da2)).setCell ⟨wr.heap.size, 4, none⟩ (.slice ek Q.1.kids.length dk2)).setCell ⟨wr.heap.size, 5, none⟩ (.string Q.1.tx)).setCell ⟨wr.heap.size, 6, none⟩ (.int .i64 Q.1.at') := ⟨_, rfl⟩
              have kP4 : Blk w4 wr.heap.size #[.int .i64 Q.1.kind, .string Q.1.sp, .string Q.1.nm, .slice ea Q.1.al.length da2, .slice ek Q.1.kids.length dk2, .string Q.1.tx, .int .i64 Q.1.at'] 29 := by
                rw [hw4]
                exact ((((((HKP3.out.set 0 (.int .i64 Q.1.kind)).set 1 (.string Q.1.sp)).set 2 (.string Q.1.nm)).set 3 (.slice ea Q.1.al.length da2)).set 4 (.slice ek Q.1.kids.length dk2)).set 5 (.string Q.1.tx)).set 6 (.int .i64 Q.1.at')
              have b4 : Below wr.heap.size wr w4 := by rw [hw4]; exact below7 HB3.out (Nat.le_refl _) _ _ _ _ _ _ _
              have k34 : Keep wr.heap.size w3 w4 := by rw [hw4]; exact (((((((Keep.refl wr.heap.size w3).set 0 _).set 1 _).set 2 _).set 3 _).set 4 _).set 5 _).set 6 _
              have R4 := HRL.out.below b4
              have hz34 := k34.size
              have HZ := Lib.hid (And.intro (kP4.cell 0) (And.intro (kP4.cell 1) (And.intro (kP4.cell 2) (And.intro (kP4.cell 3) (And.intro (kP4.cell 4) (And.intro (kP4.cell 5) (kP4.cell 6)))))))
              simp only [List.getElem?_toArray, List.getElem?_cons_succ, List.getElem?_cons_zero] at HZ
              have HNK : Hid (NodeIs (holes w4 (X ++ [w.heap.size + 1, w1.heap.size] ++ (Value.slice pv done.length cv).ownBlock.toList)) Q.1 (.agg #[.int .i64 Q.1.kind, .string Q.1.sp, .string Q.1.nm, .slice ea Q.1.al.length da2, .slice ek Q.1.kids.length dk2, .string Q.1.tx, .int .i64 Q.1.at'])) := Lib.hid (node_res HN3.out k34)
              have hdl2 : done.length ≤ i := hdl0
              clear hks hks2 kP4 b4 k34 HKS0 HN3 HB3 HKP3
              go_upto_region 10 with fail
              simp only [← hw4]
              clear hw4 p0 p1 p2 p3 p4 p5 p6 s0 s1 s2 s3 s4 s5 s6
              obtain ⟨z0, z1, z2, z3, z4, z5, z6⟩ := HZ.out
              have row4 := R4.row
              have m4 := R4.out.cell 4
              simp only [List.getElem?_toArray, List.getElem?_cons_succ, List.getElem?_cons_zero] at m4
              have HR4 := Lib.hid R4
              have hM4 := R4.ltM
              have hz4 := R4.keep.size
              clear R4
              have e1 := row4.alloc (.cells #[.int .i64 Q.1.kind, .string Q.1.sp, .string Q.1.nm, .slice ea Q.1.al.length da2, .slice ek Q.1.kids.length dk2, .string Q.1.tx, .int .i64 Q.1.at'] 29)
              have e2 : ∀ u ∈ ([.int .i64 Q.1.kind, .string Q.1.sp, .string Q.1.nm, .slice ea Q.1.al.length da2, .slice ek Q.1.kids.length dk2, .string Q.1.tx, .int .i64 Q.1.at'] : List Value), u.oneCell' = true := by
                intro u hu
                simp only [List.mem_cons, List.not_mem_nil, or_false] at hu
                rcases hu with rfl | rfl | rfl | rfl | rfl | rfl | rfl <;> rfl
              have e3 : done.length + 1 ≤ maxLen := by unfold maxLen; omega
              have e4 : (done.length + 1) * 112 ≤ 140737488355328 := by omega
              have e5 : W1.heap.size ≤ (w4.alloc (.cells #[.int .i64 Q.1.kind, .string Q.1.sp, .string Q.1.nm, .slice ea Q.1.al.length da2, .slice ek Q.1.kids.length dk2, .string Q.1.tx, .int .i64 Q.1.at'] 29)).heap.size := by simp; omega
              have e6 : (w4.alloc (.cells #[.int .i64 Q.1.kind, .string Q.1.sp, .string Q.1.nm, .slice ea Q.1.al.length da2, .slice ek Q.1.kids.length dk2, .string Q.1.tx, .int .i64 Q.1.at'] 29)).heap.size = w4.heap.size + 1 := by simp
              have e7 := node_news w4 29 (.int .i64 Q.1.kind) (.string Q.1.sp) (.string Q.1.nm) (.slice ea Q.1.al.length da2) (.slice ek Q.1.kids.length dk2) (.string Q.1.tx) (.int .i64 Q.1.at')
              have HEE := Lib.hid (And.intro e1 (And.intro e2 (And.intro e3 (And.intro e4 (And.intro e5 (And.intro e6 e7))))))
              clear e1 e2 e3 e4 e5 e6 e7
              go_wp2_with (at_builtin; refine wpList_append_lies _ rfl _ _ 27 rfl W1.heap.size 29 i0 (.agg #[.int .i64 0, .string ⟨#[]⟩, .string ⟨#[]⟩, .slice none 0 0, .slice none 0 0, .string ⟨#[]⟩, .int .i64 0]) 7 112 Tryd.underlying27 hi0 hi1 hi3 hi4 rfl (by decide) (.slice pv done.length cv) done.length xs rfl HEE.out.1 ⟨w4.heap.size, 0, none⟩ 1 1 [.int .i64 Q.1.kind, .string Q.1.sp, .string Q.1.nm, .slice ea Q.1.al.length da2, .slice ek Q.1.kids.length dk2, .string Q.1.tx, .int .i64 Q.1.at'] rfl rfl HEE.out.2.2.2.2.2.2 HEE.out.2.1 (by decide) HEE.out.2.2.1 HEE.out.2.2.2.1 HEE.out.2.2.2.2.1 (w4.heap.size + 1) HEE.out.2.2.2.2.2.1 ?_)
              intro g cap w5 hown5 hgr5 hat5 hlt5
              have bN : Below w4.heap.size w4 (w4.alloc (.cells #[.int .i64 Q.1.kind, .string Q.1.sp, .string Q.1.nm, .slice ea Q.1.al.length da2, .slice ek Q.1.kids.length dk2, .string Q.1.tx, .int .i64 Q.1.at'] 29)) := (Below.refl _ _).alloc (Nat.le_refl _) _
              have R5 := (HR4.out.below bN).push hgr5 (HNK.out.go (Goes.below bN)) hown5 (fun g' hg' => by
                rcases hat5 with h | h
                · left; rw [h]; simpa [Value.ownBlock] using hg'
                · right; simp [Value.ownBlock] at hg'; simp; omega)
              have out5 := (HR4.out.below bN).out
              have m5 : w5.cell? ⟨w1.heap.size, 4, none⟩ = some (.slice pv done.length cv) := by
                have hb : Blk w5 w1.heap.size _ 29 := (hgr5.block w1.heap.size out5.lt (fun e => by have := (row_kind row4 w1.heap.size e.symm).1; omega)).trans out5
                exact hb.cell 4
              have q5 : w5.frozen? ⟨w1.heap.size, 4, none⟩ = false := by
                have hb : Blk w5 w1.heap.size _ 29 := (hgr5.block w1.heap.size out5.lt (fun e => by have := (row_kind row4 w1.heap.size e.symm).1; omega)).trans out5
                exact hb.fr 4
              have HR5 := Lib.hid R5
              clear R5 out5 hown5 hgr5 hat5 hlt5 bN row4 z0 z1 z2 z3 z4 z5 z6 m4
              go_wp2
              go_roundw
              case rel => exact ⟨i + 1, done ++ [Q.1], some ⟨g, 0, none⟩, cap, _, by omega, by go_num, HKS.out, by rw [List.length_append, List.length_singleton]; omega, by rw [List.length_append, List.length_singleton]; exact HR5.out⟩
              case measure => simp [intOf]; omega
            · have hexb : (Q.2.2 != 0) = true := by simpa using hex
              rw [resKids_bad _ _ _ HKK.out (by rw [HQ.out]; exact hex), HQ.out, joinK_bad _ _ _ hex] at hks
              have hE : resP L.reverse n = (zeroN, Q.2.1, Q.2.2) := by rw [HE.out, hks]; exact if_pos hex
              have HEE := Lib.hid hE
              obtain ⟨w4, hw4⟩ : ∃ w4, w4 = ((((((w3.setCell ⟨wr.heap.size, 0, none⟩ (.int .i64 Q.1.kind)).setCell ⟨wr.heap.size, 1, none⟩ (.string Q.1.sp)).setCell ⟨wr.heap.size, 2, none⟩ (.string Q.1.nm)).setCell ⟨wr.heap.size, 3, none⟩ (.slice ea Q.1.al.length da2)).setCell ⟨wr.heap.size, 4, none⟩ (.slice ek Q.1.kids.length dk2)).setCell ⟨wr.heap.size, 5, none⟩ (.string Q.1.tx)).setCell ⟨wr.heap.size, 6, none⟩ (.int .i64 Q.1.at') := ⟨_, rfl⟩
              have b4 : Below wr.heap.size wr w4 := by rw [hw4]; exact below7 HB3.out (Nat.le_refl _) _ _ _ _ _ _ _
              obtain ⟨⟨r0, r1, r2, r3, r4, r5, r6⟩, g0, g1, g2, g3, g4, g5, g6⟩ := (HRL.out.below b4).res.seven
              have HBZ := Lib.hid (HBWR.out.trans (b4.mono (by omega)))
              clear hks hE b4
              go_upto_region 10 with fail
              simp only [← hw4]
              clear hw4 p0 p1 p2 p3 p4 p5 p6 s0 s1 s2 s3 s4 s5 s6
              go_wp2
              refine bodyPost_ret (v := .tuple #[.agg #[.int .i64 0, .string ⟨#[]⟩, .string ⟨#[]⟩, .slice none 0 0, .slice none 0 0, .string ⟨#[]⟩, .int .i64 0], .int .i64 Q.2.1, .int .i64 Q.2.2]) (by simp [results, Tryd.results31, go_sem, cell_set_same, r0, r1, r2, r3, r4, r5, r6]) rfl ?_
              rw [HEE.out]
              exact ⟨_, rfl, zero_le7 _, below7 HBZ.out (by omega) _ _ _ _ _ _ _⟩
          · have hkb : (k.kind == 0) = false := by simpa using hkk
            have hks2 := hks.trans (by rw [resKids_other _ _ _ hkk, joinK_join])
            have HKS := Lib.hid hks2
            have R4 := hRL.below b2
            have HZ := Lib.hid (And.intro hy0 (And.intro hy1 (And.intro hy2 (And.intro hy3 (And.intro hy4 (And.intro hy5 hy6))))))
            have HNK : Hid (NodeIs (holes w2 (X ++ [w.heap.size + 1, w1.heap.size] ++ (Value.slice pv done.length cv).ownBlock.toList)) k (.agg #[.int .i64 k.kind, .string k.sp, .string k.nm, .slice ka k.al.length da, .slice kk k.kids.length dk, .string k.tx, .int .i64 k.at'])) := Lib.hid (hkn.go (Goes.below b2))
            clear hkn hks hks2 hRL kP b2 bwr hgo hIHk hk hkm hkk hy1 hy2 hy3 hy4 hy5 hy6
            go_upto_region 8 with fail
            simp only [← hw2]
            clear hw2
            obtain ⟨z0, z1, z2, z3, z4, z5, z6⟩ := HZ.out
            have row4 := R4.row
            have m4 := R4.out.cell 4
            simp only [List.getElem?_toArray, List.getElem?_cons_succ, List.getElem?_cons_zero] at m4
            have HR4 := Lib.hid R4
            have hM4 := R4.ltM
            have hz4 := R4.keep.size
            clear R4
            have e1 := row4.alloc (.cells #[.int .i64 k.kind, .string k.sp, .string k.nm, .slice ka k.al.length da, .slice kk k.kids.length dk, .string k.tx, .int .i64 k.at'] 29)
            have e2 : ∀ u ∈ ([.int .i64 k.kind, .string k.sp, .string k.nm, .slice ka k.al.length da, .slice kk k.kids.length dk, .string k.tx, .int .i64 k.at'] : List Value), u.oneCell' = true := by
              intro u hu
              simp only [List.mem_cons, List.not_mem_nil, or_false] at hu
              rcases hu with rfl | rfl | rfl | rfl | rfl | rfl | rfl <;> rfl
            have e3 : done.length + 1 ≤ maxLen := by unfold maxLen; omega
            have e4 : (done.length + 1) * 112 ≤ 140737488355328 := by omega
            have e5 : W1.heap.size ≤ (w2.alloc (.cells #[.int .i64 k.kind, .string k.sp, .string k.nm, .slice ka k.al.length da, .slice kk k.kids.length dk, .string k.tx, .int .i64 k.at'] 29)).heap.size := by simp; omega
            have e6 : (w2.alloc (.cells #[.int .i64 k.kind, .string k.sp, .string k.nm, .slice ka k.al.length da, .slice kk k.kids.length dk, .string k.tx, .int .i64 k.at'] 29)).heap.size = w2.heap.size + 1 := by simp
            have e7 := node_news w2 29 (.int .i64 k.kind) (.string k.sp) (.string k.nm) (.slice ka k.al.length da) (.slice kk k.kids.length dk) (.string k.tx) (.int .i64 k.at')
            have HEE := Lib.hid (And.intro e1 (And.intro e2 (And.intro e3 (And.intro e4 (And.intro e5 (And.intro e6 e7))))))
            clear e1 e2 e3 e4 e5 e6 e7
            go_wp2_with (at_builtin; refine wpList_append_lies _ rfl _ _ 27 rfl W1.heap.size 29 i0 (.agg #[.int .i64 0, .string ⟨#[]⟩, .string ⟨#[]⟩, .slice none 0 0, .slice none 0 0, .string ⟨#[]⟩, .int .i64 0]) 7 112 Tryd.underlying27 hi0 hi1 hi3 hi4 rfl (by decide) (.slice pv done.length cv) done.length xs rfl HEE.out.1 ⟨w2.heap.size, 0, none⟩ 1 1 [.int .i64 k.kind, .string k.sp, .string k.nm, .slice ka k.al.length da, .slice kk k.kids.length dk, .string k.tx, .int .i64 k.at'] rfl rfl HEE.out.2.2.2.2.2.2 HEE.out.2.1 (by decide) HEE.out.2.2.1 HEE.out.2.2.2.1 HEE.out.2.2.2.2.1 (w2.heap.size + 1) HEE.out.2.2.2.2.2.1 ?_)
            intro g cap w5 hown5 hgr5 hat5 hlt5
            have bN : Below w2.heap.size w2 (w2.alloc (.cells #[.int .i64 k.kind, .string k.sp, .string k.nm, .slice ka k.al.length da, .slice kk k.kids.length dk, .string k.tx, .int .i64 k.at'] 29)) := (Below.refl _ _).alloc (Nat.le_refl _) _
            have R5 := (HR4.out.below bN).push hgr5 (HNK.out.go (Goes.below bN)) hown5 (fun g' hg' => by
              rcases hat5 with h | h
              · left; rw [h]; simpa [Value.ownBlock] using hg'
              · right; simp [Value.ownBlock] at hg'; simp; omega)
            have out5 := (HR4.out.below bN).out
            have m5 : w5.cell? ⟨w1.heap.size, 4, none⟩ = some (.slice pv done.length cv) := by
              have hb : Blk w5 w1.heap.size _ 29 := (hgr5.block w1.heap.size out5.lt (fun e => by have := (row_kind row4 w1.heap.size e.symm).1; omega)).trans out5
              exact hb.cell 4
            have q5 : w5.frozen? ⟨w1.heap.size, 4, none⟩ = false := by
              have hb : Blk w5 w1.heap.size _ 29 := (hgr5.block w1.heap.size out5.lt (fun e => by have := (row_kind row4 w1.heap.size e.symm).1; omega)).trans out5
              exact hb.fr 4
            have HR5 := Lib.hid R5
            clear R5 out5 hown5 hgr5 hat5 hlt5 bN row4 z0 z1 z2 z3 z4 z5 z6 m4
            go_wp2
            go_roundw
            case rel => exact ⟨i + 1, done ++ [k], some ⟨g, 0, none⟩, cap, _, by omega, by go_num, HKS.out, by rw [List.length_append, List.length_singleton]; omega, by rw [List.length_append, List.length_singleton]; exact HR5.out⟩
            case measure => simp [intOf]; omega
        · obtain rfl : i = n.kids.length := by omega
          have hiz : ¬ (n.kids.length : Int) < (n.kids.length : Int) := by omega
          rw [List.drop_length, resKids] at hks
          have hks3 : resKids L'.reverse n.kids = (done, 0, 0) := by rw [hks]; unfold joinK; rw [if_neg (by simp)]; simp
          have hE : resP L.reverse n = (.mk n.kind sp (splitP n.nm).2.1 acc done n.tx n.at', 0, 0) := by rw [HE.out, hks3]; exact if_neg (by simp)
          have HEE := Lib.hid hE
          have hAt : AttrsAt (holes wr (X ++ [w.heap.size + 1])) pa' acc := by
            have hr : wr.ownsRow W0.heap.size 43 4 (.slice pa' acc.length ca') acc.length (attrsCells acc) := rowSame HRA.out (fun g hg => hRL.keep.block g (by have := HRL1.out g hg; omega) (by have := HRL1.out g hg; omega))
            have hr2 : (holes wr (X ++ [w.heap.size + 1])).ownsRow W0.heap.size 43 4 (.slice pa' acc.length ca') acc.length (attrsCells acc) := rowSame hr (fun g hg => holes_ne wr _ g (fun e => by
              have h1 := (HRL1.out g hg).1
              rcases List.mem_append.1 e with e | e
              · have := HX.out g e; omega
              · simp at e; omega))
            exact attrs_of_row hr2
          have hnode := hRL.node hAt (fun b hb => by have := HX.out b hb; omega)
          obtain ⟨⟨r0, r1, r2, r3, r4, r5, r6⟩, g0, g1, g2, g3, g4, g5, g6⟩ := hRL.res.seven
          have m0 := hRL.out.cell 0
          have m1 := hRL.out.cell 1
          have m2 := hRL.out.cell 2
          have m3 := hRL.out.cell 3
          have m4 := hRL.out.cell 4
          have m5 := hRL.out.cell 5
          have m6 := hRL.out.cell 6
          simp only [List.getElem?_toArray, List.getElem?_cons_succ, List.getElem?_cons_zero] at m0 m1 m2 m3 m4 m5 m6
          have HND := Lib.hid hnode
          have HBR := Lib.hid bwr
          clear hks hks3 hE hAt hnode hRL bwr kN
          go_wp2
          refine bodyPost_ret (v := .tuple #[.agg #[.int .i64 0, .string sp, .string loc, .slice pa' acc.length ca', .slice pv done.length cv, .string ⟨#[]⟩, .int .i64 n.at'], .int .i64 0, .int .i64 0]) (by simp [results, Tryd.results31, go_sem, cell_set_same, r0, r1, r2, r3, r4, r5, r6]) rfl ?_
          rw [HEE.out]
          refine ⟨_, rfl, ?_, below7 HBR.out (by omega) _ _ _ _ _ _ _⟩
          show NodeIs _ (.mk n.kind sp (splitP n.nm).2.1 acc done n.tx n.at') _
          rw [HK0.out.1, HK0.out.2, HLO.out]
          exact node_res HND.out ((((((((Keep.refl (w.heap.size + 1) wr).set 0 _).set 1 _).set 2 _).set 3 _).set 4 _).set 5 _).set 6 _)
set_option maxRecDepth 100000 in
set_option maxHeartbeats 4000000 in
theorem nref_Resolve (n : NodeD) (v : Value) (w : World) (hn : NodeIs w n v) (hc : n.cnt ≤ 1000000) (hac : n.acnt ≤ 10000000) (hk : n.kind = 0) (hNm : NmOk 100000 n) (hSt : StrOk 40000000000 n) : Calls Tryd.prog 14 #[v] w fun e w' => RefR [] (resP [] n) w e w' := by
  obtain ⟨pa, ca, pk, ck, rfl⟩ := node_form hn
  obtain ⟨W0, hW0⟩ : ∃ W0, W0 = (w.alloc (.cells #[.int .i64 n.kind, .string n.sp, .string n.nm, .slice pa n.al.length ca, .slice pk n.kids.length ck, .string n.tx, .int .i64 n.at'] 29)).alloc (.cells nodeZs 29) := ⟨_, rfl⟩
  have hz1 : (w.alloc (.cells #[.int .i64 n.kind, .string n.sp, .string n.nm, .slice pa n.al.length ca, .slice pk n.kids.length ck, .string n.tx, .int .i64 n.at'] 29)).heap.size = w.heap.size + 1 := by simp
  have b0 : Below w.heap.size w W0 := by rw [hW0]; exact ((Below.refl _ _).alloc (Nat.le_refl _) _).alloc (by simp) _
  have kN : Blk W0 w.heap.size #[.int .i64 n.kind, .string n.sp, .string n.nm, .slice pa n.al.length ca, .slice pk n.kids.length ck, .string n.tx, .int .i64 n.at'] 29 := by rw [hW0]; exact (Blk.new w _ _).more ((Below.refl _ _).alloc (Nat.le_refl _) _)
  have kR : Blk W0 (w.heap.size + 1) nodeZs 29 := by
    have := Blk.new (w.alloc (.cells #[.int .i64 n.kind, .string n.sp, .string n.nm, .slice pa n.al.length ca, .slice pk n.kids.length ck, .string n.tx, .int .i64 n.at'] 29)) nodeZs 29
    rw [hz1] at this
    rw [hW0]
    exact this
  have hzWa : w.heap.size + 1 < W0.heap.size := by rw [hW0]; simp
  have hn0 : NodeIs (holes w []) n (.agg #[.int .i64 n.kind, .string n.sp, .string n.nm, .slice pa n.al.length ca, .slice pk n.kids.length ck, .string n.tx, .int .i64 n.at']) := by rw [holes_nil]; exact hn
  have cR := nref_resolve n.cnt n (Nat.le_refl _) hc hac hk hNm hSt [w.heap.size + 1] _ [] none 0 0 W0 (fun b hb => by rw [List.mem_singleton.1 hb]; exact hzWa) (hn0.go (fun b hb1 _ => ⟨fun e => by rw [List.mem_singleton.1 e] at hb1; omega, b0.block b hb1⟩)) (World.ownsRow_nil _ _ _ _) (by simp; omega)
  rw [List.reverse_nil] at cR
  obtain ⟨R, hR⟩ : ∃ R, resP [] n = R := ⟨_, rfl⟩
  rw [hR] at cR ⊢
  have f0 := kN.cell 0
  have f1 := kN.cell 1
  have f2 := kN.cell 2
  have f3 := kN.cell 3
  have f4 := kN.cell 4
  have f5 := kN.cell 5
  have f6 := kN.cell 6
  simp only [List.getElem?_toArray, List.getElem?_cons_succ, List.getElem?_cons_zero] at f0 f1 f2 f3 f4 f5 f6
  have HB0 := Lib.hid b0
  have HKR := Lib.hid kR
  clear hz1 hn hn0 b0 kN kR hR hNm hSt hk
  go_enter Tryd.func14, Tryd.ntmps14
  go_upto_region 1 with fail
  simp only [nodeZs] at hW0
  simp only [← hW0]
  clear hW0
  go_wp2_with fail
  refine cR.mono ?_
  rintro e w1 ⟨v, rfl, hn1, b1⟩
  obtain ⟨qa, da, qk, dk, rfl⟩ := node_form hn1
  obtain ⟨⟨r0, r1, r2, r3, r4, r5, r6⟩, g0, g1, g2, g3, g4, g5, g6⟩ := (HKR.out.more b1).seven
  have HN := Lib.hid hn1
  have HB1 := Lib.hid (HB0.out.trans (b1.mono (by omega)))
  clear hn1 b1 cR f0 f1 f2 f3 f4 f5 f6
  go_wp2
  refine bodyPost_ret (v := .tuple #[.agg #[.int .i64 R.1.kind, .string R.1.sp, .string R.1.nm, .slice qa R.1.al.length da, .slice qk R.1.kids.length dk, .string R.1.tx, .int .i64 R.1.at'], .int .i64 R.2.1, .int .i64 R.2.2]) (by simp [results, Tryd.results14, go_sem, cell_set_same, r0, r1, r2, r3, r4, r5, r6]) rfl ?_
  refine ⟨_, rfl, ?_, below7 HB1.out (by omega) _ _ _ _ _ _ _⟩
  exact node_res (L := []) (R := w.heap.size + 1) HN.out ((((((((Keep.refl (w.heap.size + 1) w1).set 0 _).set 1 _).set 2 _).set 3 _).set 4 _).set 5 _).set 6 _)
end Go.Proofs.YtoehcholbcchcaaDoor
end
