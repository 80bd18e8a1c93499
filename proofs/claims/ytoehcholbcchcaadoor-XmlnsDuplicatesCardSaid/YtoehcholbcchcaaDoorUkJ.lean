/- Packed from the texts NsP NsQ NsS. -/
import Derived.Test.YtoehcholbcchcaaDoorUNsG
import Derived.Test.YtoehcholbcchcaaDoorUNsN
import Derived.Test.YtoehcholbcchcaaDoorUNsO
import Derived.Test.YtoehcholbcchcaaDoorUkD
import Derived.Test.YtoehcholbcchcaaDoorUkI
section
namespace Go.Proofs.YtoehcholbcchcaaDoor
open Go.RowKit Go.Maps
def joinK (done : List NodeD) (q : List NodeD × Int × Int) : List NodeD × Int × Int := if q.2.2 ≠ 0 then ([], q.2.1, q.2.2) else (done ++ q.1, 0, 0)
theorem joinK_bad (done : List NodeD) (a er : Int) (h : er ≠ 0) : joinK done ([], a, er) = ([], a, er) := if_pos h
theorem joinK_join (done : List NodeD) (k : NodeD) (q : List NodeD × Int × Int) : joinK done (joinK [k] q) = joinK (done ++ [k]) q := by
  unfold joinK
  by_cases h : q.2.2 ≠ 0
  · rw [if_pos h, if_pos h, if_pos h]
  · rw [if_neg h, if_neg h, if_neg (by simp)]
    simp
theorem resKids_bad (sc : Sc) (k : NodeD) (r : List NodeD) (h : k.kind = 0) (he : (resP sc k).2.2 ≠ 0) : resKids sc (k :: r) = ([], (resP sc k).2.1, (resP sc k).2.2) := by rw [resKids, if_pos h, if_pos he]
theorem resKids_elem (sc : Sc) (k : NodeD) (r : List NodeD) (h : k.kind = 0) (he : (resP sc k).2.2 = 0) : resKids sc (k :: r) = joinK [(resP sc k).1] (resKids sc r) := by
  rw [resKids, if_pos h, if_neg (by rw [he]; decide)]
  rfl
theorem resKids_other (sc : Sc) (k : NodeD) (r : List NodeD) (h : ¬ k.kind = 0) : resKids sc (k :: r) = joinK [k] (resKids sc r) := by
  rw [resKids, if_neg h]
  rfl
theorem joinK_nil (q : List NodeD × Int × Int) (h : q.2.2 = 0 → q.2.1 = 0) (h1 : q.2.2 ≠ 0 → q.1 = []) : joinK [] q = q := by
  obtain ⟨a, b, c⟩ := q
  unfold joinK
  by_cases hc : c ≠ 0
  · rw [if_pos hc]
    simp only at h1
    rw [h1 hc]
  · rw [if_neg hc]
    have hc' : c = 0 := by simpa using hc
    simp only at h
    rw [h hc', hc']
    rfl
theorem resKids_zero (sc : Sc) : ∀ l : List NodeD, ((resKids sc l).2.2 = 0 → (resKids sc l).2.1 = 0) ∧ ((resKids sc l).2.2 ≠ 0 → (resKids sc l).1 = [])
  | [] => ⟨fun _ => rfl, fun h => absurd rfl h⟩
  | k :: r => by
    rw [resKids]
    split
    · split
      · rename_i h
        exact ⟨fun e => absurd e h, fun _ => rfl⟩
      · split
        · rename_i h
          exact ⟨fun e => absurd e h, fun _ => rfl⟩
        · exact ⟨fun _ => rfl, fun h => absurd rfl h⟩
    · split
      · rename_i h
        exact ⟨fun e => absurd e h, fun _ => rfl⟩
      · exact ⟨fun _ => rfl, fun h => absurd rfl h⟩
structure Ctx (B T rb nb : Nat) (N : List ByteArray) (E : List Fr) (sc : Sc) (f : Value) (p : Option Addr) (w : World) : Prop where
  tabs : NsK B w
  BT : B ≤ T
  Tw : T ≤ w.heap.size
  nums : Nums T rb nb N w
  num0 : numF N noB = some 0
  env : EnvAt T nb w E p
  ok : EnvOk N E sc
  fnd : FinderAt T nb w f rb p
theorem Ctx.part {B T rb nb c : Nat} {N N' : List ByteArray} {E : List Fr} {sc : Sc} {f : Value} {p : Option Addr} {X : Nat → Prop} {w w' : World} (h : Ctx B T rb nb N E sc f p w) (hp : Part X w w') (hx : ∀ i, X i → i = nb ∨ (B ≤ i ∧ i < T)) (hn : NumTo T rb nb N c N' w') : Ctx B T rb nb N' E sc f p w' :=
  ⟨h.tabs.part hp (fun i x => by rcases hx i x with y | y; (have := h.BT; have := h.nums.lown; omega); exact y.1), h.BT, by have := h.Tw; have := hp.size; omega, hn.1, hn.2.1 _ _ h.num0, h.env.part hp (fun i x => by rcases hx i x with y | y; exact .inr y; exact .inl y.2), h.ok.le hn.2.1, h.fnd.part hp (fun i x => by rcases hx i x with y | y; exact .inr y; exact .inl y.2)⟩
where
  EnvAt.part {T nb : Nat} {X : Nat → Prop} {w w' : World} {E : List Fr} {p : Option Addr} (h : EnvAt T nb w E p) (hp : Part X w w') (hx : ∀ k, X k → k < T ∨ k = nb) : EnvAt T nb w' E p := Go.Proofs.YtoehcholbcchcaaDoor.EnvAt.part hp hx E p h
def ElemR (B T rb nb : Nat) (N : List ByteArray) (R : NodeD × Int × Int) (c g o lo hi : Nat) (cs : Array Value) (w : World) (e : Ending) (w' : World) : Prop :=
  ∃ N' cs', e = .returned (.tuple #[.int .i64 R.2.1, .int .i64 R.2.2]) ∧ NumTo T rb nb N c N' w' ∧ Part (fun k => k = g ∨ k = nb ∨ (lo ≤ k ∧ k < hi)) w w' ∧
  Blk w' g cs' 29 ∧ cs'.size = cs.size ∧ (∀ j, j < o ∨ o + 7 ≤ j → cs'[j]? = cs[j]?) ∧
  (R.2.2 = 0 → ∃ u0 u1 u2 u3 u4 u5 u6, (∀ j, j < 7 → cs'[o + j]? = [u0, u1, u2, u3, u4, u5, u6][j]?) ∧ ∀ L, Off lo hi w.heap.size L → FreshIs (holes w' L) B R.1 (.agg #[u0, u1, u2, u3, u4, u5, u6]))
def ElAt (n : NodeD) : Prop := ∀ (B T rb nb g o lo hi : Nat) (N : List ByteArray) (E : List Fr) (sc : Sc) (f : Value) (p : Option Addr) (cs : Array Value) (v0 v1 v2 v3 v4 v5 v6 : Value) (w : World), Ctx B T rb nb N E sc f p w → B ≤ g → g < T → B ≤ lo → hi ≤ T → ¬ (lo ≤ g ∧ g < hi) →
  Blk w g cs 29 → o + 7 ≤ cs.size → (∀ j, j < 7 → cs[o + j]? = [v0, v1, v2, v3, v4, v5, v6][j]?) → InIs w lo hi n (.agg #[v0, v1, v2, v3, v4, v5, v6]) → NmOk 100000 n → StrOk 40000000000 n → N.length + n.acnt ≤ 1000000000 →
  Calls Tryd.prog 28 #[.pointer (some ⟨rb, 0, none⟩), .pointer (some ⟨g, o, none⟩), f] w fun e w' => ElemR B T rb nb N (resP sc n) n.acnt g o lo hi cs w e w'
theorem arr_take {a b : Array Value} {o : Nat} (hs : a.size = b.size) (h : ∀ j, j < o → a[j]? = b[j]?) : a.toList.take o = b.toList.take o := by
  apply List.ext_getElem?
  intro j
  by_cases hj : j < o
  · rw [List.getElem?_take_of_lt hj, List.getElem?_take_of_lt hj, Array.getElem?_toList, Array.getElem?_toList, h j hj]
  · rw [List.getElem?_eq_none (by simp; omega), List.getElem?_eq_none (by simp; omega)]
theorem arr_drop {a b : Array Value} {o : Nat} (h : ∀ j, o ≤ j → a[j]? = b[j]?) : a.toList.drop o = b.toList.drop o := by
  apply List.ext_getElem?
  intro j
  rw [List.getElem?_drop, List.getElem?_drop, Array.getElem?_toList, Array.getElem?_toList, h _ (by omega)]
theorem arr_at {a : Array Value} {o : Nat} {v0 v1 v2 v3 v4 v5 v6 : Value} {ys : List Value} (h : a.toList.drop o = v0 :: v1 :: v2 :: v3 :: v4 :: v5 :: v6 :: ys) : (∀ j, j < 7 → a[o + j]? = [v0, v1, v2, v3, v4, v5, v6][j]?) ∧ o + 7 ≤ a.size ∧ a.toList.drop (o + 7) = ys := by
  have hl := congrArg List.length h
  simp only [List.length_drop, Array.length_toList, List.length_cons] at hl
  refine ⟨fun j hj => ?_, by omega, ?_⟩
  · rw [← Array.getElem?_toList, ← List.getElem?_drop, h]
    rw [show v0 :: v1 :: v2 :: v3 :: v4 :: v5 :: v6 :: ys = [v0, v1, v2, v3, v4, v5, v6] ++ ys from rfl, List.getElem?_append_left (by simpa using hj)]
  · rw [← List.drop_drop, h]
    rfl
structure KR (B T rb nb : Nat) (N : List ByteArray) (E : List Fr) (sc : Sc) (f : Value) (p : Option Addr) (gk m hi : Nat) (kids : List NodeD) (w7 wr : World) (i : Nat) (N3 : List ByteArray) (ck : Array Value) (mi : Nat) (done : List NodeD) : Prop where
  num : NumTo T rb nb N (acnts (kids.take i)) N3 wr
  ctx : Ctx B T rb nb N3 E sc f p wr
  part : Part (fun k => k = gk ∨ k = nb ∨ (m ≤ k ∧ k < hi)) w7 wr
  blk : Blk wr gk ck 29
  size : ck.size = kids.length * 7
  mle : m ≤ mi
  rest : InKids wr mi hi (kids.drop i) (ck.toList.drop (i * 7))
  at' : resKids sc kids = joinK done (resKids sc (kids.drop i))
  fr : ∀ L, Off m mi w7.heap.size L → FreshKids (holes wr L) B done (ck.toList.take (i * 7))
  dlen : done.length = i
  lo : B ≤ gk ∧ gk < m ∧ hi ≤ T ∧ gk < w7.heap.size ∧ nb < w7.heap.size ∧ T ≤ w7.heap.size
section
variable {B T rb nb : Nat} {N : List ByteArray} {E : List Fr} {sc : Sc} {f : Value} {p : Option Addr} {gk m hi : Nat} {kids : List NodeD} {w7 wr : World} {i : Nat} {N3 : List ByteArray} {ck : Array Value} {mi : Nat} {done : List NodeD}
theorem KR.kid (h : KR B T rb nb N E sc f p gk m hi kids w7 wr i N3 ck mi done) (hi' : i < kids.length) : ∃ v0 v1 v2 v3 v4 v5 v6 mj, mi ≤ mj ∧ mj ≤ hi ∧ InIs wr mi mj kids[i] (.agg #[v0, v1, v2, v3, v4, v5, v6]) ∧ (∀ j, j < 7 → ck[i * 7 + j]? = [v0, v1, v2, v3, v4, v5, v6][j]?) ∧ i * 7 + 7 ≤ ck.size ∧ InKids wr mj hi (kids.drop (i + 1)) (ck.toList.drop ((i + 1) * 7)) := by
  have hr := h.rest
  rw [List.drop_eq_getElem_cons hi', InKids] at hr
  obtain ⟨v0, v1, v2, v3, v4, v5, v6, ys, mj, he, h1, h2, hn, hk⟩ := hr
  obtain ⟨h3, h4, h5⟩ := arr_at he
  refine ⟨v0, v1, v2, v3, v4, v5, v6, mj, h1, h2, hn, h3, h4, ?_⟩
  rw [show (i + 1) * 7 = i * 7 + 7 by omega, h5]
  exact hk
theorem acnts_take (l : List NodeD) (i : Nat) (h : i < l.length) : acnts (l.take (i + 1)) = acnts (l.take i) + l[i].acnt := by
  rw [List.take_succ_eq_append_getElem h, acnts_app]
  show _ + (l[i].acnt + 0) = _
  omega
theorem acnts_take_le : ∀ (l : List NodeD) (i : Nat), acnts (l.take i) ≤ acnts l
  | [], i => by simp
  | k :: r, 0 => by rw [List.take_zero, acnts]; exact Nat.zero_le _
  | k :: r, i + 1 => by
    rw [List.take_succ_cons, acnts, acnts]
    have := acnts_take_le r i
    omega
theorem KR.skip (h : KR B T rb nb N E sc f p gk m hi kids w7 wr i N3 ck mi done) (hi' : i < kids.length) (hk : ¬ kids[i].kind = 0) : ∃ mj, KR B T rb nb N E sc f p gk m hi kids w7 wr (i + 1) N3 ck mj (done ++ [kids[i]]) := by
  obtain ⟨v0, v1, v2, v3, v4, v5, v6, mj, h1, h2, hn, h3, h4, h5⟩ := h.kid hi'
  have hz := h.part.size
  have hl := h.lo
  have hm := h.mle
  have hle := hn.le
  refine ⟨mj, ⟨by rw [acnts_take _ _ hi']; exact h.num.mono (Nat.le_add_right _ _), h.ctx, h.part, h.blk, h.size, by omega, h5, ?_, fun L hL => ?_, by rw [List.length_append, h.dlen]; rfl, h.lo⟩⟩
  · rw [h.at', List.drop_eq_getElem_cons hi', resKids_other _ _ _ hk, joinK_join]
  · rw [show (i + 1) * 7 = i * 7 + 7 by omega, take_seven ck (i * 7) [v0, v1, v2, v3, v4, v5, v6] rfl h4 h3]
    refine FreshKids.snoc (InIs.fresh (by have := h.ctx.BT; omega) _ _ (InIs.off (z := w7.heap.size) (fun b hb => ?_) hn)) _ _ (h.fr L (fun b hb => ?_))
    · have := hL b hb
      exact ⟨this.1, by omega⟩
    · have := hL b hb
      exact ⟨this.1, by omega⟩
theorem KR.push (h : KR B T rb nb N E sc f p gk m hi kids w7 wr i N3 ck mi done) (hi' : i < kids.length) (hk : kids[i].kind = 0) {mj : Nat} (h1 : mi ≤ mj) (h2 : mj ≤ hi) (h4 : i * 7 + 7 ≤ ck.size) (h5 : InKids wr mj hi (kids.drop (i + 1)) (ck.toList.drop ((i + 1) * 7))) {e : Ending} {w' : World} (hE : ElemR B T rb nb N3 (resP sc kids[i]) kids[i].acnt gk (i * 7) mi mj ck wr e w') (he : (resP sc kids[i]).2.2 = 0) :
    ∃ N4 ck', KR B T rb nb N E sc f p gk m hi kids w7 w' (i + 1) N4 ck' mj (done ++ [(resP sc kids[i]).1]) := by
  obtain ⟨N4, ck', _, hN4, hP, hB, hs, hj, hok⟩ := hE
  obtain ⟨u0, u1, u2, u3, u4, u5, u6, hu, hF⟩ := hok he
  have hz := h.part.size
  have hl := h.lo
  have hm := h.mle
  have hTn := h.ctx.nums.lown
  have hBT := h.ctx.BT
  refine ⟨N4, ck', ⟨by rw [acnts_take _ _ hi']; exact h.num.trans hN4, h.ctx.part hP (fun b hb => by omega) hN4, h.part.trans hP (fun b _ hb => by omega), hB, by rw [hs]; exact h.size, by omega, ?_, ?_, fun L hL => ?_, by rw [List.length_append, h.dlen]; rfl, h.lo⟩⟩
  · rw [show (i + 1) * 7 = i * 7 + 7 by omega, arr_drop (fun j hj' => hj j (.inr hj'))]
    rw [show (i + 1) * 7 = i * 7 + 7 by omega] at h5
    exact InKids.same (fun b hb1 hb2 => hP.block b (by omega) (by omega)) _ _ h5
  · rw [h.at', List.drop_eq_getElem_cons hi', resKids_elem _ _ _ hk he, joinK_join]
  · rw [show (i + 1) * 7 = i * 7 + 7 by omega, take_seven ck' (i * 7) [u0, u1, u2, u3, u4, u5, u6] rfl (by omega) hu, arr_take (b := ck) hs (fun j hj' => hj j (.inl hj'))]
    refine FreshKids.snoc (hF L (fun b hb => ?_)) _ _ ?_
    · have := hL b hb
      exact ⟨by omega, by omega⟩
    · have hL' : Off m mi w7.heap.size (L ++ ([gk, nb] ++ List.range' mi (mj - mi))) := fun b hb => by
        rcases List.mem_append.1 hb with hb | hb
        · have := hL b hb
          exact ⟨this.1, by omega⟩
        · rcases List.mem_append.1 hb with hb | hb
          · simp only [List.mem_cons, List.not_mem_nil, or_false] at hb
            rcases hb with rfl | rfl
            · exact ⟨by omega, by omega⟩
            · exact ⟨by omega, by omega⟩
          · rw [List.mem_range'_1] at hb
            exact ⟨by omega, by omega⟩
      refine FreshKids.goes (L := L ++ ([gk, nb] ++ List.range' mi (mj - mi))) (fun b hb hn => ⟨fun e => hn (List.mem_append_left _ e), hP.block b hb (fun e => hn (List.mem_append_right _ ?_))⟩) (Nat.le_refl _) _ _ (h.fr _ hL')
      rcases e with e | e | e
      · exact List.mem_append_left _ (by simp [e])
      · exact List.mem_append_left _ (by simp [e])
      · exact List.mem_append_right _ (by rw [List.mem_range'_1]; omega)
end
end Go.Proofs.YtoehcholbcchcaaDoor
end
section
namespace Go.Proofs.YtoehcholbcchcaaDoor
open Go.RowKit Go.Maps
theorem ElemR.fail {B T rb nb : Nat} {N N' : List ByteArray} {R : NodeD × Int × Int} {c g o lo hi : Nat} {cs cs' : Array Value} {w w' : World} {a er : Int} (hR : R = (zeroN, a, er)) (her : er ≠ 0) (hN : NumTo T rb nb N c N' w') (hP : Part (fun k => k = g ∨ k = nb ∨ (lo ≤ k ∧ k < hi)) w w')
    (hB : Blk w' g cs' 29) (hs : cs'.size = cs.size) (hj : ∀ j, j < o ∨ o + 7 ≤ j → cs'[j]? = cs[j]?) : ElemR B T rb nb N R c g o lo hi cs w (.returned (.tuple #[.int .i64 a, .int .i64 er])) w' := by
  subst hR
  exact ⟨N', cs', rfl, hN, hP, hB, hs, hj, fun h => absurd h her⟩
set_option maxRecDepth 100000 in
set_option maxHeartbeats 16000000 in
theorem ns_element : ∀ (F : Nat) (n : NodeD), n.cnt ≤ F → n.cnt ≤ 1000000 → n.acnt ≤ 10000000 → ElAt n
  | 0, n, hf, _, _ => absurd hf (by have := cnt_eq n; omega)
  | F + 1, n, hf, hc, hac => by
    intro B T rb nb g o lo hi N E sc f p cs v0 v1 v2 v3 v4 v5 v6 w hC hBg hgT hBlo hhi hgn hblk hos hcs hI hNm hSt hl
    have hae := acnt_eq n
    have hce := cnt_eq n
    have IH : ∀ k ∈ n.kids, ElAt k := fun k hk => ns_element F k (by have := cnt_kid n k hk; omega) (by have := cnt_kid n k hk; omega) (by have := acnts_mem _ k hk; omega)
    obtain ⟨va, gk, ck, m, hv, hlm, hmh, hva, hvm, hlg, hgm, hbk, hks, hkm, hkk⟩ := (in_eq w lo hi n _).1 hI
    simp only [Value.agg.injEq, Array.mk.injEq, List.cons.injEq, and_true] at hv
    obtain ⟨rfl, rfl, rfl, rfl, rfl, rfl, rfl⟩ := hv
    obtain ⟨pa, ca, rfl⟩ := own_form hva
    obtain ⟨hn1, hn2, hn3, -⟩ := (nmok_eq 100000 n).1 hNm
    obtain ⟨hs1, hs2, hs3, -⟩ := (strok_eq _ n).1 hSt
    have hAO : AtOk n.al := fun x hx => ⟨by have := hn2 x hx; omega, by have := hs2 x hx; unfold maxLen; omega⟩
    have hres := res_eq sc n
    have cS := ns_Split n.nm w (by omega) hC.tabs.tabs
    have hsz := split_size n.nm
    have g2 : w.cell? ⟨g, o + 2, none⟩ = some (.string n.nm) := by rw [hblk.cell, hcs 2 (by omega)]; rfl
    have hkl : n.kids.length ≤ 1000000 := by have := cnts_length n.kids; omega
    obtain ⟨c1, c2, rfl, t1, t2, t3, t4, kc1, kc2⟩ := hC.fnd
    obtain ⟨ok, hok⟩ : ∃ ok, (splitP n.nm).2.2 = ok := ⟨_, rfl⟩
    obtain ⟨loc, hloc⟩ : ∃ loc, (splitP n.nm).2.1 = loc := ⟨_, rfl⟩
    obtain ⟨pfx, hpfx⟩ : ∃ pfx, (splitP n.nm).1 = pfx := ⟨_, rfl⟩
    rw [hok, hloc, hpfx] at cS hres
    rw [hloc, hpfx] at hsz
    have hpz : pfx.size ≤ maxLen := by unfold maxLen; omega
    obtain ⟨R, hR⟩ : ∃ R, resP sc n = R := ⟨_, rfl⟩
    rw [hR] at hres ⊢
    have HC := Lib.hid hC
    have HI := Lib.hid hI
    have HIH := Lib.hid IH
    have HB := Lib.hid hblk
    have HCS := Lib.hid hcs
    have HVA := Lib.hid hva
    have HVM := Lib.hid hvm
    have HBK := Lib.hid hbk
    have HKK := Lib.hid hkk
    have HN3 := Lib.hid hn3
    have HS3 := Lib.hid hs3
    have HAO := Lib.hid hAO
    have HK1 := Lib.hid kc1
    have HK2 := Lib.hid kc2
    clear hC hI IH hblk hcs hva hvm hbk hkk hn3 hs3 hAO kc1 kc2 hR hok hloc hpfx hn1 hn2 hs1 hs2 hNm hSt hf
    have hbad : ∀ w1, Below w.heap.size w w1 → ∀ a : Int, R = (zeroN, a, 13) → ElemR B T rb nb N R n.acnt g o lo hi cs w (.returned (.tuple #[.int .i64 a, .int .i64 13])) w1 := fun w1 b1 a hR => ElemR.fail (N' := N) hR (by decide) (NumTo.refl (HC.out.nums.below b1) _) (Part.of b1) (HB.out.more b1) rfl (fun _ _ => rfl)
    have h6 : ∀ w1, Below w.heap.size w w1 → w1.cell? ⟨g, o + 6, none⟩ = some (.int .i64 n.at') := fun w1 b1 => by rw [(HB.out.more b1).cell, HCS.out 6 (by omega)]; rfl
    cases ok with
    | false =>
      rw [if_pos (.inl rfl)] at hres
      have HRS := Lib.hid hres
      have HBD := Lib.hid hbad
      have HH6 := Lib.hid h6
      clear hres hbad h6
      go_enter Tryd.func28, Tryd.ntmps28
      go_wp2_with fail
      refine cS.mono ?_
      rintro e w1 ⟨rfl, b1⟩
      have q6 := HH6.out w1 b1
      have HF := Lib.hid (HBD.out w1 b1 _ HRS.out)
      clear b1
      go_wp2
      exact bodyPost_ret (v := .tuple #[.int .i64 n.at', .int .i64 13]) (by simp [results, Tryd.results28, go_sem]) rfl HF.out
    | true =>
      by_cases hx : pfx = xmlnsB
      · rw [if_pos (.inr hx)] at hres
        have HRS := Lib.hid hres
        have HBD := Lib.hid hbad
        have HH6 := Lib.hid h6
        subst hx
        unfold xmlnsB at cS
        clear hres hbad h6
        go_enter Tryd.func28, Tryd.ntmps28
        go_wp2_with fail
        refine cS.mono ?_
        rintro e w1 ⟨rfl, b1⟩
        have q6 := HH6.out w1 b1
        have HF := Lib.hid (HBD.out w1 b1 _ HRS.out)
        clear b1
        go_wp2
        exact bodyPost_ret (v := .tuple #[.int .i64 n.at', .int .i64 13]) (by simp [results, Tryd.results28, go_sem]) rfl HF.out
      · rw [if_neg (fun h => h.elim (fun h => by cases h) hx)] at hres
        have hxe : (pfx.toList == [120, 109, 108, 110, 115]) = false := cne hx rfl
        have HRS := Lib.hid hres
        clear hres hx hbad
        go_enter Tryd.func28, Tryd.ntmps28
        go_wp2_with fail
        refine cS.mono ?_
        rintro e w1 ⟨rfl, b1⟩
        have C1 := HC.out.part (X := fun _ => False) (Part.of b1) (fun _ x => x.elim) (NumTo.refl (HC.out.nums.below b1) 0)
        have B1 := HB.out.more b1
        have q3 : w1.cell? ⟨g, o + 3, none⟩ = some (.slice pa n.al.length ca) := by rw [B1.cell, HCS.out 3 (by omega)]; rfl
        have hz1 := b1.size
        have hTn := HC.out.nums.lown
        have hBT := HC.out.BT
        have hTw := HC.out.Tw
        have A1 : ARow w1 0 nb (.slice pa n.al.length ca) n.al := ⟨Go.Joins.ownsRow_le (row_below HVA.out b1) (Nat.zero_le _), fun b hb => by have := HVM.out b hb; omega⟩
        have cI := ns_findIn B T rb nb N E sc p c1 c2 pa ca n.al w1 C1.tabs (by omega) C1.Tw C1.nums A1 HAO.out (by omega) (HK1.out.more b1) (HK2.out.more b1) t4 C1.env C1.ok
        have HC1 := Lib.hid C1
        have HA1 := Lib.hid A1
        have HB1 := Lib.hid B1
        have Hb1 := Lib.hid b1
        clear C1 A1 B1 b1 h6
        go_wp2_with fail
        refine cI.mono ?_
        rintro e w2 ⟨P2, K2, N2, hN2, ⟨her, rfl⟩ | ⟨her, p', E', rfl, hE2, hok2⟩⟩
        · have hr := HRS.out
          rw [if_pos her] at hr
          have HF := Lib.hid (ElemR.fail (B := B) (lo := lo) (hi := hi) (o := o) (g := g) (cs := cs) hr her (hN2.mono (show n.al.length ≤ n.acnt by omega)) ((Part.of Hb1.out).trans P2 (fun b _ hb => .inr (.inl hb))) (P2.blk HB1.out (by omega)) rfl (fun _ _ => rfl))
          have herb : ((declsP sc n.al).2.2 != 0) = true := by simpa using her
          generalize (declsP sc n.al).2.2 = er at *
          generalize (declsP sc n.al).2.1 = ea at *
          clear P2 K2 hN2 her hr
          go_wp2
          exact bodyPost_ret (v := .tuple #[.int .i64 ea, .int .i64 er]) (by simp [results, Tryd.results28, go_sem]) rfl HF.out
        · have hr := HRS.out
          rw [if_neg (by rw [her]; decide)] at hr
          obtain ⟨sc', hsc'⟩ : ∃ sc', (declsP sc n.al).1 = sc' := ⟨_, rfl⟩
          rw [hsc'] at hr hok2
          have P02 : Part (fun k => k = nb) w w2 := (Part.of Hb1.out).trans P2 (fun b _ hb => hb)
          have B2 := P2.blk HB1.out (show ¬ g = nb by omega)
          have cF := ns_find T nb E' p' pfx w2 hE2 hpz
          have hlk := (hok2 pfx).1
          have hnk := (hok2 pfx).2
          have hz2 := P2.size
          have HE2 := Lib.hid hE2
          have HOK2 := Lib.hid hok2
          have HN2 := Lib.hid hN2
          have HP02 := Lib.hid P02
          have HB2 := Lib.hid B2
          have HK2' := Lib.hid K2
          have HRS2 := Lib.hid hr
          have hn2l := hN2.2.2
          clear hsc' her hE2 hok2 hN2 P2 P02 B2 K2 hr HRS
          cases hf : findE E' pfx with
          | none =>
            rw [hf] at cF hlk
            simp only [nsVal, Option.isSome] at cF
            have hr := HRS2.out
            rw [← hlk] at hr
            simp only [Option.map_none] at hr
            have HR3 := Lib.hid hr
            clear hf hlk hnk hr
            go_wp2_with fail
            refine cF.mono ?_
            rintro e w3 ⟨rfl, b3⟩
            have b4 : Below w2.heap.size w2 (w3.alloc (.cells #[.string ⟨#[]⟩, .int .i64 0] 98)) := b3.alloc b3.size _
            have B4 := HB2.out.more b4
            have q6 : (w3.alloc (.cells #[.string ⟨#[]⟩, .int .i64 0] 98)).cell? ⟨g, o + 6, none⟩ = some (.int .i64 n.at') := by rw [B4.cell, HCS.out 6 (by omega)]; rfl
            have HF := Lib.hid (ElemR.fail (B := B) (lo := lo) (hi := hi) (o := o) (g := g) (cs := cs) HR3.out (by decide) ((HN2.out.mono (show n.al.length ≤ n.acnt by omega)).part (X := fun _ => False) (Part.of b4) (fun _ x => x.elim)) (HP02.out.trans (Part.of (X := fun _ => False) b4) (fun _ _ x => x.elim) |>.mono (fun b _ hb => .inr (.inl hb))) B4 rfl (fun _ _ => rfl))
            clear b3 b4 B4
            go_wp2
            exact bodyPost_ret (v := .tuple #[.int .i64 n.at', .int .i64 13]) (by simp [results, Tryd.results28, go_sem]) rfl HF.out
          | some xk =>
            obtain ⟨x, k⟩ := xk
            have hxk := hnk x k hf
            rw [hf] at cF hlk
            simp only [nsVal, Option.isSome] at cF
            have hr := HRS2.out
            rw [← hlk] at hr
            simp only [Option.map_some] at hr
            have HR3 := Lib.hid hr
            clear hf hlk hnk hr hxk
            go_wp2_with fail
            refine cF.mono ?_
            rintro e w3 ⟨rfl, b3⟩
            have b4 : Below w2.heap.size w2 (w3.alloc (.cells #[.string x, .int .i64 (k : Int)] 98)) := b3.alloc b3.size _
            have B4 := HB2.out.more b4
            have kx : Blk (w3.alloc (.cells #[.string x, .int .i64 (k : Int)] 98)) w3.heap.size #[.string x, .int .i64 (k : Int)] 98 := Blk.new w3 _ _
            obtain ⟨W4, hW4⟩ : ∃ W4, W4 = ((w3.alloc (.cells #[.string x, .int .i64 (k : Int)] 98)).setCell ⟨g, o + 1, none⟩ (.string x)).setCell ⟨g, o + 2, none⟩ (.string loc) := ⟨_, rfl⟩
            have e1 : (w3.alloc (.cells #[.string x, .int .i64 (k : Int)] 98)).cell? ⟨g, o + 1, none⟩ = some (.string n.sp) := by rw [B4.cell, HCS.out 1 (by omega)]; rfl
            have e2 : (w3.alloc (.cells #[.string x, .int .i64 (k : Int)] 98)).cell? ⟨g, o + 2, none⟩ = some (.string n.nm) := by rw [B4.cell, HCS.out 2 (by omega)]; rfl
            have f1 := B4.fr (o + 1)
            have f2 := B4.fr (o + 2)
            have BW4 : Blk W4 g ((cs.setIfInBounds (o + 1) (.string x)).setIfInBounds (o + 2) (.string loc)) 29 := by rw [hW4]; exact (B4.set (o + 1) _).set (o + 2) _
            have P24 : Part (fun b => b = g) w2 W4 := by rw [hW4]; exact ((Part.of (X := fun b => b = g) b4).set (q := ⟨g, o + 1, none⟩) (.inl rfl) _).set (q := ⟨g, o + 2, none⟩) (.inl rfl) _
            have q3 : W4.cell? ⟨g, o + 3, none⟩ = some (.slice pa n.al.length ca) := by
              rw [BW4.cell, Array.getElem?_setIfInBounds_ne (by omega), Array.getElem?_setIfInBounds_ne (by omega), HCS.out 3 (by omega)]
              rfl
            have E4 := EnvAt.part P24 (fun b hb => by left; omega) E' p' HE2.out
            have K4 := HK2'.out.part P24 (fun b hb => by omega)
            have hz4 := P24.size
            have A4 : W4.ownsRow lo 43 4 (.slice pa n.al.length ca) n.al.length (attrsCells n.al) := rowSame HVA.out (fun b hb => by
              have h1 := (row_kind HVA.out b hb).1
              have h2 := HVM.out b hb
              have h3 := (row_kind HVA.out b hb).2.1
              exact (P24.block b (by have := HP02.out.size; omega) (by omega)).trans (HP02.out.block b h3 (by omega)))
            have hn0 := HN2.out.2.1 _ _ HC.out.num0
            have cA := ns_attrs B T nb N2 E' sc' p' pa ca n.al W4 K4 E4 HOK2.out hn0 (by omega) (attrs_of_row A4) HAO.out (by omega)
            have HW4 := Lib.hid hW4
            have HP24 := Lib.hid P24
            have HBW4 := Lib.hid BW4
            have HE4 := Lib.hid E4
            have HK4 := Lib.hid K4
            clear b3 b4 B4 P24 BW4 E4 K4 A4 hn0
            rw [hW4] at cA q3
            clear hW4
            go_wp2_with fail
            refine cA.mono ?_
            rintro e w5 ⟨b5, hAt⟩
            rw [← HW4.out] at b5 hAt
            have hz5 := b5.size
            have B5 := HBW4.out.more b5
            obtain ⟨cs4, hcs4⟩ : ∃ cs4, (cs.setIfInBounds (o + 1) (.string x)).setIfInBounds (o + 2) (.string loc) = cs4 := ⟨_, rfl⟩
            rw [hcs4] at B5
            have h4s : cs4.size = cs.size := by rw [← hcs4]; simp
            have h4j : ∀ j, j ≠ o + 1 → j ≠ o + 2 → cs4[j]? = cs[j]? := fun j h1 h2 => by rw [← hcs4, Array.getElem?_setIfInBounds_ne (fun e => h2 e.symm), Array.getElem?_setIfInBounds_ne (fun e => h1 e.symm)]
            have h41 : cs4[o + 1]? = some (.string x) := by
              rw [← hcs4, Array.getElem?_setIfInBounds_ne (by omega), Array.getElem?_setIfInBounds_self_of_lt (by omega)]
            have h42 : cs4[o + 2]? = some (.string loc) := by
              rw [← hcs4, Array.getElem?_setIfInBounds_self_of_lt (by simp; omega)]
            have y3 : w5.cell? ⟨g, o + 3, none⟩ = some (.slice pa n.al.length ca) := by rw [B5.cell, h4j _ (by omega) (by omega), HCS.out 3 (by omega)]; rfl
            have y3f := B5.fr (o + 3)
            have P05 : Part (fun b => b = g ∨ b = nb) w w5 := ((HP02.out.mono (fun b _ hb => .inr hb)).trans HP24.out (fun b _ hb => .inl hb)).more b5
            have H4J := Lib.hid h4j
            have H41 := Lib.hid h41
            have H42 := Lib.hid h42
            clear h4j h41 h42 hcs4 e1 e2 f1 f2
            rcases hAt with ⟨her5, rfl⟩ | ⟨her5, pa5, ca5, rfl, hrow5⟩
            · have hr := HR3.out
              rw [if_pos her5] at hr
              have HF := Lib.hid (ElemR.fail (B := B) (T := T) (rb := rb) (nb := nb) (N := N) (N' := N2) (c := n.acnt) (lo := lo) (hi := hi) (o := o) (g := g) (cs := cs) (cs' := cs4.setIfInBounds (o + 3) (.slice none 0 0)) (w := w) (w' := w5.setCell ⟨g, o + 3, none⟩ (.slice none 0 0)) hr her5 ((HN2.out.mono (show n.al.length ≤ n.acnt by omega)).part ((HP24.out.more b5).set (q := ⟨g, o + 3, none⟩) (.inl rfl) _) (fun b hb => by omega)) ((P05.set (q := ⟨g, o + 3, none⟩) (.inl (.inl rfl)) _).mono (fun b _ hb => by omega)) (B5.set (o + 3) _) (by simp; omega) (fun j hj => by rw [Array.getElem?_setIfInBounds_ne (by omega), H4J.out j (by omega) (by omega)]))
              have herb : ((attrsP sc' n.al []).2.2 != 0) = true := by simpa using her5
              generalize (attrsP sc' n.al []).2.2 = er at *
              generalize (attrsP sc' n.al []).2.1 = ea at *
              clear b5 B5 P05 her5 hr
              go_wp2
              exact bodyPost_ret (v := .tuple #[.int .i64 ea, .int .i64 er]) (by simp [results, Tryd.results28, go_sem]) rfl HF.out
            · have hr := HR3.out
              rw [if_neg (by rw [her5]; decide)] at hr
              obtain ⟨al', hal'⟩ : ∃ al', (attrsP sc' n.al []).1 = al' := ⟨_, rfl⟩
              rw [hal'] at hr hrow5 ⊢
              obtain ⟨W6, hW6⟩ : ∃ W6, W6 = w5.setCell ⟨g, o + 3, none⟩ (.slice pa5 al'.length ca5) := ⟨_, rfl⟩
              obtain ⟨cs6, hcs6⟩ : ∃ cs6, cs4.setIfInBounds (o + 3) (.slice pa5 al'.length ca5) = cs6 := ⟨_, rfl⟩
              have B6 : Blk W6 g cs6 29 := by rw [hW6, ← hcs6]; exact B5.set (o + 3) _
              have P56 : Part (fun b => b = g) w5 W6 := by rw [hW6]; exact (Part.refl (fun b => b = g) w5).set (q := ⟨g, o + 3, none⟩) (.inl rfl) _
              have h6s : cs6.size = cs.size := by rw [← hcs6]; simp; omega
              have h63 : cs6[o + 3]? = some (.slice pa5 al'.length ca5) := by rw [← hcs6, Array.getElem?_setIfInBounds_self_of_lt (by omega)]
              have h6j : ∀ j, j ≠ o + 3 → cs6[j]? = cs4[j]? := fun j h1 => by rw [← hcs6, Array.getElem?_setIfInBounds_ne (fun e => h1 e.symm)]
              have hz6 := P56.size
              have P26 : Part (fun b => b = g) w2 W6 := (HP24.out.more b5).trans P56 (fun b _ hb => hb)
              have P06 : Part (fun b => b = g ∨ b = nb) w W6 := P05.trans P56 (fun b _ hb => .inl hb)
              have N6 := HN2.out.part P26 (fun b hb => by omega)
              have cW := ns_within T rb nb p' W6 (by omega) (by have := N6.1.map.lt; omega)
              have hn0 := HN2.out.2.1 _ _ HC.out.num0
              have K6 := HK2'.out.part P26 (fun b hb => by omega)
              have E6 := EnvAt.part P26 (fun b hb => by left; omega) E' p' HE2.out
              have BK6 := P06.blk HBK.out (by omega)
              have KK6 := InKids.same (w' := W6) (fun b h1 h2 => P06.block b (by omega) (by omega)) _ _ HKK.out
              have HAR := Lib.hid hrow5
              have HW6 := Lib.hid hW6
              have HP56 := Lib.hid P56
              have HP06 := Lib.hid P06
              have HB6 := Lib.hid B6
              have HN6 := Lib.hid N6
              have HK6 := Lib.hid K6
              have HE6 := Lib.hid E6
              have HBK6 := Lib.hid BK6
              have HKK6 := Lib.hid KK6
              have H6J := Lib.hid h6j
              have H63 := Lib.hid h63
              have HR6 := Lib.hid hr
              have hn6 := N6.2.2
              have hnb6 := N6.1.map.lt
              rw [hW6] at cW
              clear hcs6 B6 P56 P26 P06 P05 N6 K6 E6 BK6 KK6 hrow5 h6j h63 hr hW6 hal' b5 B5
              go_wp2_with fail
              refine cW.mono ?_
              rintro e w7 ⟨f', rfl, hf7, b7⟩
              rw [← HW6.out] at b7
              have hz7 := b7.size
              have B7 := HB6.out.more b7
              have C7 : Ctx B T rb nb N2 E' sc' f' p' w7 := ⟨HK6.out.more b7, hBT, by omega, HN6.out.1.below b7, hn0, EnvAt.part (X := fun _ => False) (Part.of b7) (fun _ x => x.elim) E' p' HE6.out, HOK2.out, hf7⟩
              have KR0 : KR B T rb nb N2 E' sc' f' p' gk m hi n.kids w7 w7 0 N2 ck m [] := ⟨by rw [List.take_zero]; exact NumTo.refl C7.nums _, C7, Part.refl _ _, HBK6.out.more b7, hks, Nat.le_refl _, by rw [List.drop_zero, Nat.zero_mul, List.drop_zero]; exact InKids.same (fun b h1 h2 => b7.block b (by omega)) _ _ HKK6.out, by rw [List.drop_zero]; exact (joinK_nil _ (resKids_zero sc' n.kids).1 (resKids_zero sc' n.kids).2).symm, fun L _ => by rw [Nat.zero_mul, List.take_zero, FreshKids], rfl, ⟨by omega, hgm, hhi, by omega, by omega, by omega⟩⟩
              have q4 : w7.cell? ⟨g, o + 4, none⟩ = some (.slice (some ⟨gk, 0, none⟩) n.kids.length n.kids.length) := by rw [B7.cell, H6J.out _ (by omega), H4J.out _ (by omega) (by omega), HCS.out 4 (by omega)]; rfl
              have HKR := Lib.hid KR0
              have HB7 := Lib.hid B7
              have Hb7 := Lib.hid b7
              clear C7 KR0 B7 b7 hf7
              go_wp2
              go_loopw [99] (fun q wr => ∃ (i : Nat) (N3 : List ByteArray) (ckr : Array Value) (mi : Nat) (done : List NodeD), i ≤ n.kids.length ∧ q = .int .i64 i ∧ KR B T rb nb N2 E' sc' f' p' gk m hi n.kids w7 wr i N3 ckr mi done) (fun q _ => n.kids.length - (intOf q).toNat)
              case atStart => exact ⟨0, N2, ck, m, [], Nat.zero_le _, rfl, HKR.out⟩
              case round =>
                clear q4 HKR
                obtain ⟨i, N3, ckr, mi, done, hi', rfl, hD⟩ := hrel
                have BG := hD.part.blk HB7.out (by omega)
                have q4 : wr.cell? ⟨g, o + 4, none⟩ = some (.slice (some ⟨gk, 0, none⟩) n.kids.length n.kids.length) := by rw [BG.cell, H6J.out _ (by omega), H4J.out _ (by omega) (by omega), HCS.out 4 (by omega)]; rfl
                have hzr := hD.part.size
                by_cases hlt : i < n.kids.length
                · have hiz : (i : Int) < (n.kids.length : Int) := by omega
                  obtain ⟨v0, v1, v2, v3, v4, v5, v6, mj, h1, h2, hn, h3, h4, h5⟩ := hD.kid hlt
                  obtain ⟨pa', ca', pk', ck', hv⟩ := in_val hn
                  simp only [Value.agg.injEq, Array.mk.injEq, List.cons.injEq, and_true] at hv
                  obtain ⟨rfl, rfl, rfl, rfl, rfl, rfl, rfl⟩ := hv
                  have r0 : wr.cell? ⟨gk, i * 7, none⟩ = some (.int .i64 n.kids[i].kind) := by rw [hD.blk.cell]; exact h3 0 (by omega)
                  have hIHk := HIH.out _ (List.getElem_mem hlt)
                  have hNk := nmoks_mem _ _ HN3.out _ (List.getElem_mem hlt)
                  have hSk := stroks_mem _ _ HS3.out _ (List.getElem_mem hlt)
                  have hac3 := acnts_take n.kids i hlt
                  have hac4 := acnts_take_le n.kids (i + 1)
                  have hn3 := hD.num.2.2
                  have hlo := hD.lo
                  have hmle := hD.mle
                  have hat := hD.at'
                  rw [List.drop_eq_getElem_cons hlt] at hat
                  have HAT := Lib.hid hat
                  obtain ⟨kd, hkd⟩ : ∃ kd, n.kids[i] = kd := ⟨_, rfl⟩
                  by_cases hk : n.kids[i].kind = 0
                  · have HPU := Lib.hid (fun e w' hE he => hD.push (e := e) (w' := w') hlt hk h1 h2 h4 h5 hE he)
                    rw [hkd] at hn r0 hIHk hNk hSk hac3 hk HPU HAT
                    have cE := hIHk B T rb nb gk (i * 7) mi mj N3 E' sc' f' p' ckr _ _ _ _ _ _ _ wr hD.ctx hlo.1 (by omega) (by omega) (by omega) (by omega) hD.blk h4 (by rw [← hkd]; exact h3) hn hNk hSk (by omega)
                    have hkb : (kd.kind != 0) = false := by rw [hk]; rfl
                    have HK := Lib.hid hk
                    have HD := Lib.hid hD
                    have HBG := Lib.hid BG
                    clear hIHk hNk hSk hn h3 h5 hk hD hkd BG hat
                    go_wp2_with fail
                    refine cE.mono ?_
                    rintro e w8 hE8
                    have hE := hE8
                    obtain ⟨N8, c8, rfl, hN8, hP8, hB8, hs8, hj8, -⟩ := hE8
                    by_cases her8 : (resP sc' kd).2.2 = 0
                    · obtain ⟨N9, c9, hD9⟩ := HPU.out _ _ hE her8
                      have HD9 := Lib.hid hD9
                      rw [her8]
                      generalize (resP sc' kd).2.1 = ea
                      clear hE hD9 hN8 hP8 hB8 hs8 hj8 her8
                      go_wp2
                      go_roundw
                      case rel => exact ⟨i + 1, N9, c9, mj, _, by omega, by go_num, HD9.out⟩
                      case measure => simp [intOf]; omega
                    · have hr := HR6.out
                      rw [HAT.out, resKids_bad _ _ _ HK.out her8, joinK_bad _ _ _ her8, if_pos her8] at hr
                      have PT : Part (fun k => k = g ∨ k = nb ∨ (lo ≤ k ∧ k < hi)) w w8 := ((((HP06.out.more Hb7.out).mono (fun b _ hb => by omega)).trans HD.out.part (fun b _ hb => by omega)).trans hP8 (fun b _ hb => by omega))
                      have HF := Lib.hid (ElemR.fail (B := B) (o := o) (cs := cs) hr her8 ((HN6.out.trans (HD.out.num.trans hN8)).mono (show n.al.length + (acnts (n.kids.take i) + kd.acnt) ≤ n.acnt by omega)) PT (hP8.blk HBG.out (by omega)) h6s (fun j hj => by rw [H6J.out j (by omega), H4J.out j (by omega) (by omega)]))
                      have herb : ((resP sc' kd).2.2 != 0) = true := by simpa using her8
                      generalize (resP sc' kd).2.2 = er at *
                      generalize (resP sc' kd).2.1 = ea at *
                      clear hE hN8 hP8 hB8 hs8 hj8 her8 PT hr
                      go_wp2
                      exact bodyPost_ret (v := .tuple #[.int .i64 ea, .int .i64 er]) (by simp [results, Tryd.results28, go_sem]) rfl HF.out
                  · have hkb : (n.kids[i].kind != 0) = true := by simpa using hk
                    obtain ⟨mk, hD9⟩ := hD.skip hlt hk
                    have HD9 := Lib.hid hD9
                    rw [hkd] at hkb r0
                    clear hIHk hNk hSk hn h3 h5 hk hD hD9 BG hat HAT hac3 hkd
                    go_wp2
                    go_roundw
                    case rel => exact ⟨i + 1, N3, ckr, mk, _, by omega, by go_num, HD9.out⟩
                    case measure => simp [intOf]; omega
                · obtain rfl : i = n.kids.length := by omega
                  have hr := HR6.out
                  have hrk : resKids sc' n.kids = (done, 0, 0) := by
                    rw [hD.at', List.drop_length, resKids]
                    unfold joinK
                    rw [if_neg (fun h => h rfl), List.append_nil]
                  rw [hrk, if_neg (fun h => h rfl)] at hr
                  have hnb0 := HC.out.nums.map.lt
                  have hlo := hD.lo
                  have hmle := hD.mle
                  have hlast := hD.rest.le
                  have P7 := HP06.out.more Hb7.out
                  have hz07 := P7.size
                  have PT : Part (fun k => k = g ∨ k = nb ∨ (lo ≤ k ∧ k < hi)) w wr := (P7.mono (fun b _ hb => by omega)).trans hD.part (fun b _ hb => by omega)
                  have hn3 := hD.num.2.2
                  have htk : n.kids.take n.kids.length = n.kids := List.take_length
                  have HF : Hid (ElemR B T rb nb N R n.acnt g o lo hi cs w (.returned (.tuple #[.int .i64 0, .int .i64 0])) wr) := by
                    rw [hr]
                    refine Lib.hid ⟨N3, cs6, rfl, (HN6.out.trans hD.num).mono (by rw [htk]; omega), PT, BG, h6s, fun j hj => by rw [H6J.out j (by omega), H4J.out j (by omega) (by omega)], fun _ => ⟨.int .i64 n.kind, .string x, .string loc, .slice pa5 al'.length ca5, .slice (some ⟨gk, 0, none⟩) n.kids.length n.kids.length, .string n.tx, .int .i64 n.at', fun j hj => ?_, fun L hL => ?_⟩⟩
                    · have hj7 : j = 0 ∨ j = 1 ∨ j = 2 ∨ j = 3 ∨ j = 4 ∨ j = 5 ∨ j = 6 := by omega
                      rcases hj7 with rfl | rfl | rfl | rfl | rfl | rfl | rfl
                      · rw [H6J.out _ (by omega), H4J.out _ (by omega) (by omega), HCS.out 0 (by omega)]; rfl
                      · rw [H6J.out _ (by omega), H41.out]; rfl
                      · rw [H6J.out _ (by omega), H42.out]; rfl
                      · rw [H63.out]; rfl
                      · rw [H6J.out _ (by omega), H4J.out _ (by omega) (by omega), HCS.out 4 (by omega)]; rfl
                      · rw [H6J.out _ (by omega), H4J.out _ (by omega) (by omega), HCS.out 5 (by omega)]; rfl
                      · rw [H6J.out _ (by omega), H4J.out _ (by omega) (by omega), HCS.out 6 (by omega)]; rfl
                    · have hkind := row_kind HAR.out
                      have hfr := hD.fr L (fun b hb => by have := hL b hb; exact ⟨by omega, by omega⟩)
                      rw [List.take_of_length_le (by simp [hD.size])] at hfr
                      have hgL : gk ∉ L := fun e => (hL gk e).2 ⟨hlg, by omega⟩
                      have hrow := row_blk (lo := B) (show Blk (holes wr L) gk ckr 29 from (holes_ne wr L gk hgL).trans hD.blk) hD.size hlo.1 (show n.kids.length ≤ maxLen by unfold maxLen; omega)
                      have hdl := hD.dlen
                      rw [fresh_eq]
                      refine ⟨.slice pa5 al'.length ca5, .slice (some ⟨gk, 0, none⟩) n.kids.length n.kids.length, ckr.toList, rfl, ?_, ?_, hfr⟩
                      · refine Go.Joins.ownsRow_le (rowSame HAR.out (fun b hb => ?_)) (show B ≤ W4.heap.size by omega)
                        have hb1 := (hkind b hb).1
                        have hb2 := (hkind b hb).2.1
                        rw [holes_ne wr L b (fun e => by have := (hL b e).1; omega)]
                        exact (hD.part.block b (by omega) (by omega)).trans ((Hb7.out.block b (by omega)).trans (HP56.out.block b hb2 (by omega)))
                      · show (holes wr L).ownsRow B 29 7 (.slice (some ⟨gk, 0, none⟩) n.kids.length n.kids.length) done.length ckr.toList
                        rw [hdl]
                        exact hrow
                  clear hr hrk hnb0 hlo hmle hlast P7 PT hn3 hD BG
                  go_wp2
                  exact bodyPost_ret (v := .tuple #[.int .i64 0, .int .i64 0]) (by simp [results, Tryd.results28, go_sem]) rfl HF.out
end Go.Proofs.YtoehcholbcchcaaDoor
end
section
namespace Go.Proofs.YtoehcholbcchcaaDoor
open Go.RowKit Go.Maps
theorem res_zero (sc : Sc) (n : NodeD) : (resP sc n).2.2 ≠ 0 → (resP sc n).1 = zeroN := by
  rw [res_eq]
  split
  · exact fun _ => rfl
  · split
    · exact fun _ => rfl
    · split
      · exact fun _ => rfl
      · split
        · exact fun _ => rfl
        · split
          · exact fun _ => rfl
          · exact fun h => absurd rfl h
theorem res_at (sc : Sc) (n : NodeD) : (resP sc n).2.2 = 0 → (resP sc n).2.1 = 0 := by
  rw [res_eq]
  split
  · exact fun h => absurd h (show ¬ (13 : Int) = 0 by decide)
  · split
    · rename_i h
      exact fun e => absurd e h
    · split
      · exact fun h => absurd h (show ¬ (13 : Int) = 0 by decide)
      · split
        · rename_i h
          exact fun e => absurd e h
        · split
          · rename_i h
            exact fun e => absurd e h
          · exact fun _ => rfl
def ResR (B : Nat) (R : NodeD × Int × Int) (w : World) (e : Ending) (w' : World) : Prop := ∃ v, e = .returned (.tuple #[v, .int .i64 R.2.1, .int .i64 R.2.2]) ∧ FreshIs w' B R.1 v ∧ Below w.heap.size w w'
theorem fresh_zero (w : World) (B : Nat) : FreshIs w B zeroN (.agg #[.int .i64 0, .string ⟨#[]⟩, .string ⟨#[]⟩, .slice none 0 0, .slice none 0 0, .string ⟨#[]⟩, .int .i64 0]) := by
  unfold zeroN
  rw [FreshIs]
  exact ⟨_, _, [], rfl, World.ownsRow_nil _ _ _ _, World.ownsRow_nil _ _ _ _, by rw [FreshKids]⟩
set_option maxRecDepth 100000 in
set_option maxHeartbeats 16000000 in
theorem ns_Resolve (n : NodeD) (v : Value) (w : World) (hn : NodeIs w n v) (hT : NsT w) (hc : n.cnt ≤ 1000000) (hac : n.acnt ≤ 10000000) (hNm : NmOk 100000 n) (hSt : StrOk 40000000000 n) : Calls Tryd.prog 13 #[v] w fun e w' => ResR w.heap.size (resP [] n) w e w' := by
  obtain ⟨pa, ca, pk, ck, rfl, hA, hK⟩ := (node_is w n v).1 hn
  obtain ⟨W1, hW1⟩ : ∃ W1, W1 = (w.alloc (.cells #[.int .i64 n.kind, .string n.sp, .string n.nm, .slice pa n.al.length ca, .slice pk n.kids.length ck, .string n.tx, .int .i64 n.at'] 29)).alloc (.cells #[.int .i64 0, .string ⟨#[]⟩, .string ⟨#[]⟩, .slice none 0 0, .slice none 0 0, .string ⟨#[]⟩, .int .i64 0] 29) := ⟨_, rfl⟩
  have PH : Blk W1 w.heap.size #[.int .i64 n.kind, .string n.sp, .string n.nm, .slice pa n.al.length ca, .slice pk n.kids.length ck, .string n.tx, .int .i64 n.at'] 29 := by
    rw [hW1]
    exact (Blk.new w _ _).more ((Below.refl _ _).alloc (Nat.le_refl _) _)
  have PR : Blk W1 (w.heap.size + 1) nodeZs 29 := by
    have := Blk.new (w.alloc (.cells #[.int .i64 n.kind, .string n.sp, .string n.nm, .slice pa n.al.length ca, .slice pk n.kids.length ck, .string n.tx, .int .i64 n.at'] 29)) nodeZs 29
    rw [hW1]
    simpa [nodeZs] using this
  have B1 : Below w.heap.size w W1 := by rw [hW1]; exact ((Below.refl _ _).alloc (Nat.le_refl _) _).alloc (by simp) _
  have hz1 : W1.heap.size = w.heap.size + 2 := by rw [hW1]; simp
  have cC := ns_copyOf n.cnt n (Nat.le_refl _) hc hac _ W1 (NodeIs.below B1 _ _ hn)
  have d0 := PH.cell 0
  have d1 := PH.cell 1
  have d2 := PH.cell 2
  have d3 := PH.cell 3
  have d4 := PH.cell 4
  have d5 := PH.cell 5
  have d6 := PH.cell 6
  simp only [List.getElem?_toArray, List.getElem?_cons_succ, List.getElem?_cons_zero] at d0 d1 d2 d3 d4 d5 d6
  obtain ⟨R, hR⟩ : ∃ R, resP [] n = R := ⟨_, rfl⟩
  have hrz := res_zero [] n
  have hra := res_at [] n
  rw [hR] at hrz hra ⊢
  have HPH := Lib.hid PH
  have HPR := Lib.hid PR
  have HB1 := Lib.hid B1
  have HZ1 := Lib.hid hz1
  have HNM := Lib.hid hNm
  have HST := Lib.hid hSt
  have HTB := Lib.hid hT
  have HRR := Lib.hid hR
  clear hn hA hK PH PR B1 hz1 hNm hSt hT hR
  go_enter Tryd.func13, Tryd.ntmps13
  go_upto_region 1 with fail
  simp only [← hW1]
  clear hW1
  go_wp2_with fail
  refine cC.mono ?_
  rintro e w2 ⟨v2, rfl, hI2, b2⟩
  obtain ⟨pa2, ca2, pk2, ck2, rfl⟩ := in_val hI2
  have hz1 := HZ1.out
  have hz2 := b2.size
  have PH2 := HPH.out.more b2
  have e0 := PH2.cell 0
  have e1 := PH2.cell 1
  have e2 := PH2.cell 2
  have e3 := PH2.cell 3
  have e4 := PH2.cell 4
  have e5 := PH2.cell 5
  have e6 := PH2.cell 6
  simp only [List.getElem?_toArray, List.getElem?_cons_succ, List.getElem?_cons_zero] at e0 e1 e2 e3 e4 e5 e6
  have f0 := PH2.fr 0
  have f1 := PH2.fr 1
  have f2 := PH2.fr 2
  have f3 := PH2.fr 3
  have f4 := PH2.fr 4
  have f5 := PH2.fr 5
  have f6 := PH2.fr 6
  obtain ⟨W3, hW3⟩ : ∃ W3, W3 = ((((((w2.setCell ⟨w.heap.size, 0, none⟩ (.int .i64 n.kind)).setCell ⟨w.heap.size, 1, none⟩ (.string n.sp)).setCell ⟨w.heap.size, 2, none⟩ (.string n.nm)).setCell ⟨w.heap.size, 3, none⟩ (.slice pa2 n.al.length ca2)).setCell ⟨w.heap.size, 4, none⟩ (.slice pk2 n.kids.length ck2)).setCell ⟨w.heap.size, 5, none⟩ (.string n.tx)).setCell ⟨w.heap.size, 6, none⟩ (.int .i64 n.at') := ⟨_, rfl⟩
  have PB3 : Blk W3 w.heap.size (set7 #[.int .i64 n.kind, .string n.sp, .string n.nm, .slice pa n.al.length ca, .slice pk n.kids.length ck, .string n.tx, .int .i64 n.at'] 0 (.int .i64 n.kind) (.string n.sp) (.string n.nm) (.slice pa2 n.al.length ca2) (.slice pk2 n.kids.length ck2) (.string n.tx) (.int .i64 n.at')) 29 := by rw [hW3]; exact blk_set7 PH2 0 _ _ _ _ _ _ _
  have P23 : Part (fun b => b = w.heap.size) w2 W3 := by rw [hW3]; exact part_set7 (Part.refl (fun b => b = w.heap.size) w2) (.inl rfl) 0 _ _ _ _ _ _ _
  have hz3 : W3.heap.size = w2.heap.size := by rw [hW3]; simp [World.setCell]
  have I3 := InIs.same (w' := W3) (fun b h1 h2 => P23.block b h2 (by omega)) _ _ hI2
  have PR3 := P23.blk (HPR.out.more b2) (by omega)
  have BW3 : Below w.heap.size w W3 := P23.below (HB1.out.trans (b2.mono (by omega))) (fun b hb => by omega) (by omega)
  have cN := ns_newResolver w2.heap.size W3 (by omega)
  rw [hW3] at cN
  have HW3 := Lib.hid hW3
  have HPB3 := Lib.hid PB3
  have HI3 := Lib.hid I3
  have HPR3 := Lib.hid PR3
  have HBW3 := Lib.hid BW3
  have HZ3 := Lib.hid hz3
  clear hW3 PB3 P23 I3 PR3 BW3 hI2 b2 PH2 d0 d1 d2 d3 d4 d5 d6 hz3
  go_wp2_with fail
  refine cN.mono ?_
  rintro e w4 ⟨rb, nb, rfl, hN4, b4⟩
  rw [← HW3.out] at b4
  have hz3 := HZ3.out
  have hz4 := b4.size
  have cO := ns_outermost w2.heap.size rb nb w4 (by omega) hN4
  clear e0 e1 e2 e3 e4 e5 e6 f0 f1 f2 f3 f4 f5 f6
  go_wp2_with fail
  refine cO.mono ?_
  rintro e w5 ⟨p, N', k0, rfl, hN5, hE5, hok5, P5⟩
  have hz5 := P5.size
  have hnb4 := hN4.map.lt
  have hTn := hN4.lown
  have cW := ns_within w2.heap.size rb nb p w5 (by omega) (by omega)
  go_wp2_with fail
  refine cW.mono ?_
  rintro e w6 ⟨f, rfl, hf6, b6⟩
  have hz6 := b6.size
  have P36 : Part (fun b => b = nb) W3 w6 := ((Part.of b4).trans P5 (fun b _ hb => hb)).more b6
  have BW6 : Below w.heap.size w w6 := P36.below HBW3.out (fun b hb => by omega) (by omega)
  have C6 : Ctx w.heap.size w2.heap.size rb nb N' [frame0 k0] [] f p w6 := ⟨⟨w, HTB.out, Nat.le_refl _, BW6⟩, by omega, by omega, hN5.1.below b6, hN5.2.1 _ _ rfl, EnvAt.part (X := fun _ => False) (Part.of b6) (fun _ x => x.elim) _ _ hE5, hok5, hf6⟩
  have I6 := InIs.same (w' := w6) (fun b h1 h2 => P36.block b (by omega) (by omega)) _ _ HI3.out
  rw [hz1] at I6
  have PB6 := P36.blk HPB3.out (by omega)
  have PR6 := P36.blk HPR3.out (by omega)
  have hl5 := hN5.2.2
  have cE := ns_element n.cnt n (Nat.le_refl _) hc hac w.heap.size w2.heap.size rb nb w.heap.size 0 (w.heap.size + 2) w2.heap.size N' [frame0 k0] [] f p _ _ _ _ _ _ _ _ w6 C6 (Nat.le_refl _) (by omega) (by omega) (Nat.le_refl _) (by omega) PB6 (by rw [set7_size]; show 0 + 7 ≤ 7; omega) (fun j hj => set7_at _ 0 _ _ _ _ _ _ _ (by show 0 + 7 ≤ 7; omega) j hj) I6 HNM.out HST.out (by simp at hl5; omega)
  rw [HRR.out] at cE
  have HPR6 := Lib.hid PR6
  have HBW6 := Lib.hid BW6
  clear C6 I6 PB6 PR6 P36 BW6 hf6 hN5 hE5 hok5 P5 hN4 b4 b6
  go_wp2_with fail
  refine cE.mono ?_
  rintro e w7 ⟨N7, c7, rfl, hN7, hP7, hB7, hs7, hj7, hok7⟩
  have hz7 := hP7.size
  have PR7 := hP7.blk HPR6.out (by omega)
  have B7 : Below w.heap.size w w7 := hP7.below HBW6.out (fun b hb => by omega) (by omega)
  obtain ⟨⟨r0, r1, r2, r3, r4, r5, r6⟩, k0, k1, k2, k3, k4, k5, k6⟩ := PR7.seven
  by_cases her : R.2.2 = 0
  · obtain ⟨u0, u1, u2, u3, u4, u5, u6, hu, hF⟩ := hok7 her
    have q0 : w7.cell? ⟨w.heap.size, 0, none⟩ = some u0 := by rw [hB7.cell]; exact hu 0 (by omega)
    have q1 : w7.cell? ⟨w.heap.size, 1, none⟩ = some u1 := by rw [hB7.cell]; exact hu 1 (by omega)
    have q2 : w7.cell? ⟨w.heap.size, 2, none⟩ = some u2 := by rw [hB7.cell]; exact hu 2 (by omega)
    have q3 : w7.cell? ⟨w.heap.size, 3, none⟩ = some u3 := by rw [hB7.cell]; exact hu 3 (by omega)
    have q4 : w7.cell? ⟨w.heap.size, 4, none⟩ = some u4 := by rw [hB7.cell]; exact hu 4 (by omega)
    have q5 : w7.cell? ⟨w.heap.size, 5, none⟩ = some u5 := by rw [hB7.cell]; exact hu 5 (by omega)
    have q6 : w7.cell? ⟨w.heap.size, 6, none⟩ = some u6 := by rw [hB7.cell]; exact hu 6 (by omega)
    have hF1 := hF [w.heap.size + 1] (fun b hb => by simp at hb; omega)
    obtain ⟨xa, xc, ya, yc, hv⟩ := fresh_val hF1
    simp only [Value.agg.injEq, Array.mk.injEq, List.cons.injEq, and_true] at hv
    obtain ⟨rfl, rfl, rfl, rfl, rfl, rfl, rfl⟩ := hv
    have HF1 := Lib.hid hF1
    have HB7 := Lib.hid B7
    have HER := Lib.hid her
    clear hF1 hF hu hok7 hj7 hs7 hB7 hP7 hN7 PR7 B7
    have HRA := Lib.hid (hra her)
    clear hra her hrz
    rw [HER.out]
    go_wp2
    refine bodyPost_ret (v := .tuple #[.agg #[.int .i64 R.1.kind, .string R.1.sp, .string R.1.nm, .slice xa R.1.al.length xc, .slice ya R.1.kids.length yc, .string R.1.tx, .int .i64 R.1.at'], .int .i64 0, .int .i64 0]) (by simp [results, Tryd.results13, go_sem, cell_set_same, r0, r1, r2, r3, r4, r5, r6]) rfl ?_
    have PF := part_set7 (Part.refl (fun b => b = w.heap.size + 1) w7) (b := w.heap.size + 1) (.inl rfl) 0 (.int .i64 R.1.kind) (.string R.1.sp) (.string R.1.nm) (.slice xa R.1.al.length xc) (.slice ya R.1.kids.length yc) (.string R.1.tx) (.int .i64 R.1.at')
    have h9 := FreshIs.goes (L := [w.heap.size + 1]) (L' := []) (fun b hb hn => ⟨by simp, PF.block b hb (fun e => hn (by simp [e]))⟩) (Nat.le_refl _) _ _ HF1.out
    rw [holes_nil] at h9
    exact ⟨_, by rw [HRA.out, HER.out], h9, PF.below HB7.out (fun b hb => by omega) (by omega)⟩
  · have herb : (R.2.2 != 0) = true := by simpa using her
    have hz := hrz her
    have HZ := Lib.hid hz
    have HB7 := Lib.hid B7
    clear hok7 hj7 hs7 hB7 hP7 hN7 PR7 B7 her hrz hra hz
    go_wp2
    refine bodyPost_ret (v := .tuple #[.agg #[.int .i64 0, .string ⟨#[]⟩, .string ⟨#[]⟩, .slice none 0 0, .slice none 0 0, .string ⟨#[]⟩, .int .i64 0], .int .i64 R.2.1, .int .i64 R.2.2]) (by simp [results, Tryd.results13, go_sem, cell_set_same, r0, r1, r2, r3, r4, r5, r6]) rfl ?_
    have PF := part_set7 (Part.refl (fun b => b = w.heap.size + 1) w7) (b := w.heap.size + 1) (.inl rfl) 0 (.int .i64 0) (.string ⟨#[]⟩) (.string ⟨#[]⟩) (.slice none 0 0) (.slice none 0 0) (.string ⟨#[]⟩) (.int .i64 0)
    exact ⟨_, rfl, by rw [HZ.out]; exact fresh_zero _ _, PF.below HB7.out (fun b hb => by omega) (by omega)⟩
end Go.Proofs.YtoehcholbcchcaaDoor
end
