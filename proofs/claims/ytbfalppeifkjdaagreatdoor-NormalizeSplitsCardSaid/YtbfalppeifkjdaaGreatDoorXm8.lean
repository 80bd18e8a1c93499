/- Packed from the texts NmM NnS NnY NnT NmN. -/
import Derived.Test.YtbfalppeifkjdaaGreatDoorXNnI
import Derived.Test.YtbfalppeifkjdaaGreatDoorXl6
section
namespace Go.Proofs.YtbfalppeifkjdaaGreatDoor
open Go.RowKit
theorem takeG_len {α β : Type} [DecidableEq β] {key : α → β} {mg : α → α → α} : ∀ (l : List α) (e : α), (takeG key mg l e).2.length ≤ l.length
  | [], _ => Nat.le_refl _
  | y :: r, e => by
    rw [takeG]
    split
    · exact Nat.le_trans (takeG_len r _) (Nat.le_succ _)
    · exact Nat.succ_le_succ (takeG_len r _)
theorem insG_len {α : Type} {c : α → α → Int} (e : α) : ∀ l : List α, (insG c e l).length = l.length + 1
  | [] => rfl
  | y :: r => by
    rw [insG]
    split
    · rfl
    · rw [List.length_cons, insG_len e r, List.length_cons]
theorem addsG_len {α β : Type} [DecidableEq β] {key : α → β} {c : α → α → Int} {mg : α → α → α} : ∀ (es l : List α), (addsG key c mg l es).length ≤ l.length + es.length
  | [], _ => Nat.le_refl _
  | e :: es, l => by
    refine Nat.le_trans (addsG_len es (addG key c mg l e)) ?_
    have h1 : (addG key c mg l e).length ≤ l.length + 1 := by
      unfold addG
      rw [insG_len]
      exact Nat.succ_le_succ (takeG_len l e)
    rw [List.length_cons]
    omega
theorem quW_col : ∀ l : List ByteArray, quW (l.map colB) ≤ quW l
  | [] => Nat.le_refl _
  | a :: r => by
    have h1 := colB_size a
    have h2 := quW_col r
    rw [List.map_cons, quW, quW]
    omega
def FIn (f : FeedD) : Prop := FSmU f ∧ ∀ x ∈ f.ents, -9223372036854775808 ≤ x.upd ∧ x.upd ≤ 9223372036854775807
theorem feedN_ents {f : FeedD} (h : FIn f) : ∀ e ∈ (feedN f).ents, EOk e :=
  addsG_all EOk (fun _ _ => ltE_eok) _ [] (fun e he => absurd he List.not_mem_nil) fun e he => by
    obtain ⟨x, hx, rfl⟩ := List.mem_map.1 he
    exact entN_eok ⟨h.1.1.ents x hx, h.2 x hx⟩
theorem feedN_elen (f : FeedD) : (feedN f).ents.length ≤ f.ents.length := by
  have := addsG_len (key := EntD.id) (c := cmpE) (mg := ltE) (f.ents.map entN) []
  rw [List.length_map, List.length_nil, Nat.zero_add] at this
  exact this
theorem feedN_small {f : FeedD} (h : FIn f) : FSmU (feedN f) :=
  ⟨⟨Nat.le_trans (colB_size _) h.1.1.id, Nat.le_trans (colB_size _) h.1.1.title, Nat.le_trans (colB_size _) h.1.1.link, fun s hs => by
    obtain ⟨x, hx, rfl⟩ := List.mem_map.1 (show s ∈ f.path.map colB from hs)
    exact Nat.le_trans (colB_size _) (h.1.1.path x hx), by show (f.path.map colB).length ≤ _; rw [List.length_map]; exact h.1.1.plen, Nat.le_trans (quW_col _) h.1.1.qu, fun e he => (feedN_ents h e he).1, Nat.le_trans (feedN_elen f) h.1.1.elen⟩, h.1.2⟩
theorem feedN_good {f : FeedD} (h : FIn f) (hx : feedX f = 0) {y : FC} (hy : y.f = feedN f) : FcGood y := by
  refine ⟨by rw [hy]; exact feedN_small h, by rw [hy]; exact feedN_ents h, ?_⟩
  rw [hy]
  exact ((okF_iff _).1 (feedN_ok f hx)).2.2.2.2.2.2
theorem flat_len {l : List FeedD} {ys : List FC} (h : ys.map FC.f = l.map feedN) : (ys.flatMap fun x => x.f.ents).length ≤ (l.flatMap FeedD.ents).length := by
  have e : ys.flatMap (fun x => x.f.ents) = (l.map feedN).flatMap FeedD.ents := by rw [← h, List.flatMap_map]
  rw [e, List.flatMap_map]
  clear h e
  induction l with
  | nil => exact Nat.le_refl _
  | cons f r ih =>
    rw [List.flatMap_cons, List.flatMap_cons, List.length_append, List.length_append]
    have := feedN_elen f
    omega
end Go.Proofs.YtbfalppeifkjdaaGreatDoor
end
section
namespace Go.Proofs.YtbfalppeifkjdaaGreatDoor
open Go.RowKit
theorem pair_memr {α β : Type} {R : α → β → Prop} {l : List α} {m : List β} (h : PairL R l m) : ∀ y ∈ m, ∃ x ∈ l, R x y := pair_mem h
set_option maxRecDepth 100000 in
set_option maxHeartbeats 16000000 in
theorem nz_Archive (l : List FeedD) (p : Option Addr) (c : Nat) (w : World) (hl : FeedsAt w p l) (hF : ∀ f ∈ l, FIn f) (hn : l.length ≤ 1000000) (ht : (l.flatMap FeedD.ents).length ≤ 1000000) (hT : TabW w) :
    Calls Tryz.prog 19 #[.slice p l.length c] w fun e w' => ∃ p' c' ys, e = .returned (.tuple #[.agg #[.slice p' ys.length c'], .int .i64 (archX l)]) ∧ (archX l = 0 → ys.map FC.f = archN l ∧ NewRow 6 fcCells w.heap.size (.slice p' ys.length c') ys w' ∧ ∀ y ∈ ys, fcOk (holes w' (List.range w.heap.size)) y) ∧ (archX l ≠ 0 → ys = []) ∧ Below w.heap.size w w' := by
  obtain ⟨b, hb⟩ : ∃ b, b = w.heap.size := ⟨_, rfl⟩
  obtain ⟨W1, hW1⟩ : ∃ W1, W1 = w.alloc (.cells #[.slice none 0 0] 46) := ⟨_, rfl⟩
  have hB : Below w.heap.size w W1 := by rw [hW1]; exact (Below.refl _ _).alloc (Nat.le_refl _) _
  have hR : MBlk W1 b #[.slice none 0 0] 46 := by rw [hW1, hb]; exact heap_alloc_new w _
  have hrg : ∀ j ∈ List.range (b + 1), j < W1.heap.size := fun j hj => by
    have := List.mem_range.1 hj
    have := hR.lt
    omega
  have cE := nz_eachF l p c W1 fcOk fcOk_mono (fun f y => y.f = feedN f) feedX W1.heap.size (List.range (b + 1)) (hl.below hB) rfl (by omega) (fun x v hx hv M wx hbx hM => nz_Feed x v wx M (hv.below hbx) (hF x hx).1 (hF x hx).2 hM (TabW_below hT (hB.trans (hbx.mono hB.size)))) archX rfl (fun _ _ => rfl) hrg
  obtain ⟨N, hN⟩ : ∃ n, archX l = n := ⟨_, rfl⟩
  rw [hN] at cE ⊢
  obtain ⟨Nz, hNz⟩ : ∃ z : Int, z = (N : Int) := ⟨_, rfl⟩
  rw [← hNz] at cE
  have HF := Lib.hid hF
  have HTT := Lib.hid ht
  have HT := Lib.hid hT
  have HBW := Lib.hid hb
  have HB := Lib.hid hB
  have HR := Lib.hid hR
  have HN := Lib.hid hN
  have HNZ := Lib.hid hNz
  have HRG := Lib.hid hrg
  clear hl hF ht hT hB hR hN hNz hrg hb
  go_enter Tryz.func19, Tryz.ntmps19
  go_upto_region 1 with fail
  simp only [← hW1, ← HBW.out]
  clear hW1
  go_wp2_with fail
  refine cE.mono ?_
  rintro e w2 ⟨v2, rfl, hok, -, b2⟩
  have hB2 := HB.out.trans (b2.mono HB.out.size)
  have hR2 := HR.out.more b2
  have r0 := hR2.cell 0
  simp only [List.getElem?_toArray, List.getElem?_cons_zero] at r0
  have g0 := hR2.fr 0
  have HB2 := Lib.hid hB2
  have HR2 := Lib.hid hR2
  have HOK := Lib.hid hok
  have hwb : w.heap.size ≤ b := by have := HBW.out; omega
  by_cases hz0 : Nz = 0
  · subst hz0
    have hn0 : N = 0 := by have := HNZ.out; omega
    subst hn0
    obtain ⟨ys, hP, hO⟩ := HOK.out rfl
    obtain ⟨p2, c2, rfl⟩ := jrow_val hO.row
    have hys : ys.map FC.f = l.map feedN := hP.map (f := feedN) (g := FC.f) (fun x y h => h)
    have hx0 : ∀ f ∈ l, feedX f = 0 := (archX_zero l).1 HN.out
    have hgood : ∀ y ∈ ys, FcGood y := fun y hy => by
      obtain ⟨f, hf, hyf⟩ := pair_memr hP y hy
      exact feedN_good (HF.out f hf) (hx0 f hf) hyf
    have cC := nz_combineFeeds ys p2 c2 w2 (List.range (b + 1)) (RwAt.of_owns fcCells_len hO.row rfl) (fun y hy => fcOk_mono _ _ _ (Goes.both (Goes.less fun k hk => List.mem_append_right _ hk)) (hO.ok y hy)) (fun j hj => Nat.lt_of_lt_of_le (HRG.out j hj) b2.size) (by rw [hP.len]; exact hn) hgood (Nat.le_trans (flat_len hys) HTT.out) (TabW_below HT.out hB2)
    rw [hys] at cC
    clear hP hO hys hx0 hgood b2 hB2 hR2 hok HOK cE HF
    go_wp2_with fail
    refine cC.mono ?_
    rintro e w3 ⟨v3, zs, rfl, hz, hN3, hk3, b3⟩
    obtain ⟨p3, c3, rfl, -, -⟩ := id hN3
    have hR3 := HR2.out.more b3
    have q0 := hR3.cell 0
    simp only [List.getElem?_toArray, List.getElem?_cons_zero] at q0
    have f0 := hR3.fr 0
    have hbz := HR2.out.lt
    have hF : Hid (∀ W' : World, W' = w3.setCell ⟨b, 0, none⟩ (.slice p3 zs.length c3) → NewRow 6 fcCells w.heap.size (.slice p3 zs.length c3) zs W' ∧ (∀ y ∈ zs, fcOk (holes W' (List.range w.heap.size)) y) ∧ Below w.heap.size w W') := Lib.hid (fun W' hW' => by
      refine ⟨by rw [hW']; exact (nz_newset hN3 hbz 0 _).mono (Nat.le_trans hwb (Nat.le_of_lt hbz)), fun y hy => ?_, by rw [hW']; exact (HB2.out.trans (b3.mono HB2.out.size)).setCell (p := ⟨b, 0, none⟩) hwb _⟩
      refine fcOk_mono _ _ _ (Goes.both (fun j hj hn => ?_)) (hk3 y hy)
      have hjb : b + 1 ≤ j := Nat.not_lt.1 fun h => hn (List.mem_range.2 h)
      have hbw := HBW.out
      refine ⟨fun e => by have := List.mem_range.1 e; omega, ?_⟩
      rw [hW', Below.heap_setCell _ _ _ _ (show j ≠ b by omega)])
    clear cC b3 hN3 hk3 hR3
    have HZ := Lib.hid hz
    clear hz r0 g0
    go_wp2
    exact bodyPost_ret (v := .tuple #[.agg #[.slice p3 zs.length c3], .int .i64 0]) (by simp [results, Tryz.results19, go_sem, mset_same, q0]) rfl ⟨p3, c3, zs, rfl, ⟨HZ.out, (hF.out _ rfl).1, (hF.out _ rfl).2.1⟩, (hF.out _ rfl).2.2⟩
  · have hn0 : ¬ N = 0 := by have := HNZ.out; omega
    have hF := Lib.hid (HB2.out.setCell (p := ⟨b, 0, none⟩) hwb (.slice none 0 0))
    clear hok HOK b2 hB2 hR2 cE HF
    go_wp2
    exact bodyPost_ret (v := .tuple #[.agg #[.slice none 0 0], .int .i64 Nz]) (by simp [results, Tryz.results19, go_sem, mset_same, r0]) rfl ⟨none, 0, [], by rw [HNZ.out]; rfl, fun h => absurd h hn0, fun _ => rfl, hF.out⟩
theorem feeds_new {B : Nat} {p : Option Addr} {n c : Nat} {ys : List FC} {w : World} {M : List Nat} (h : NewRow 6 fcCells B (.slice p n c) ys w) (hok : ∀ y ∈ ys, fcOk (holes w M) y) : FeedsAt w p (ys.map FC.f) := fun i hi => by
  have hi' : i < ys.length := by rw [List.length_map] at hi; exact hi
  obtain ⟨a, ha, hc⟩ := h.row i hi'
  obtain ⟨p', c', q, d, hv, h1, h2⟩ := (hok ys[i] (List.getElem_mem _)).is
  rw [List.getElem_map]
  refine ⟨a, ys[i].p, ys[i].c, ys[i].q, ys[i].d, ha, ⟨?_, hc 1 _ rfl, hc 2 _ rfl, hc 3 _ rfl, hc 4 _ rfl, hc 5 _ rfl⟩, ?_, ?_⟩
  · have := hc 0 _ rfl
    rwa [show (a.add (i * 6)).add 0 = a.add (i * 6) by rw [add_add]; rfl] at this
  · unfold fcV at hv
    cases hv
    exact h1
  · unfold fcV at hv
    cases hv
    exact h2
end Go.Proofs.YtbfalppeifkjdaaGreatDoor
end
section
namespace Go.Proofs.YtbfalppeifkjdaaGreatDoor
open Go.RowKit Go.Deep
def FOpn (f : FeedD) : Prop := FOpen f ∧ ∀ e ∈ f.ents, EWf e
theorem FOpn.fin {f : FeedD} (h : FOpn f) (hs : FSm f) : FIn f := ⟨⟨hs, h.1.2⟩, fun e he => ⟨(h.2 e he).u0, (h.2 e he).u1⟩⟩
section
variable {H : Type} {enc : TypeId × Value → H} {w : World} {base : Nat} {spare : Nat → Bool} {held : Bool}
set_option maxRecDepth 100000 in
theorem nopen_entsc {fuel : Nat} {v : Value} {x : DataW H × List MemPlace} (h : DataW.trod enc Tryz.prog w base spare held fuel 33 [v] = some x) (hz : Sj Tryz.prog 33 x.1) : ∃ (p : Option Addr) (c : Nat) (l : List EntD), v = .slice p l.length c ∧ EntsAt w p l ∧ l.length ≤ 140737488351232 ∧ (∀ e ∈ l, EWf e) ∧ l.length ≤ c := by
  have hu : Tryz.prog.underlying 33 = some (.slice 23) := by kernel_rfl
  obtain ⟨-, -, -, -, -, -, -, -, hC⟩ := mefields
  rcases DataW.trod_slice hu h with ⟨hv, -⟩ | ⟨a, len, cap, elems, rest, n', hn', hv, rfl, hb, hle, hm, he, hE, -, -⟩
  · cases hv
    exact ⟨none, 0, [], rfl, fun i hi => absurd hi (Nat.not_lt_zero _), by simp, (fun s hs => by cases hs), by simp⟩
  · cases hv
    rw [hC] at hE
    obtain ⟨kids, hk, hkt⟩ := jchoose len (fun i (y : EntD) => w.cells? base (a.add (i * 5)) 5 = some [.string y.id, .string y.title, .string y.link, .string y.content, .int .i64 y.upd] ∧ EWf y) (fun i hi => by
      have h1 := hE i hi
      rw [List.getElem?_eq_getElem (by omega)] at h1
      obtain ⟨cs, hc, ht⟩ := Option.bind_eq_some_iff.1 h1
      obtain ⟨e, rfl, hs⟩ := mopen_ent ht (Sj.elem hu hz (List.getElem?_eq_getElem (by omega)))
      exact ⟨e, hc, hs⟩)
    refine ⟨some a, cap, kids, by rw [hk], fun i hi => ?_, ?_, fun s hs => ?_, by rw [hk]; omega⟩
    · obtain ⟨-, -, hg⟩ := World.cells?_some (hkt i hi).1
      exact ⟨a, rfl, hg 0 (by omega), by simpa using hg 1 (by omega), by simpa using hg 2 (by omega), by simpa using hg 3 (by omega), by simpa using hg 4 (by omega)⟩
    · rw [hk, ← he]
      exact Sj.len hu (by decide +kernel) hz
    · obtain ⟨i, hi, rfl⟩ := List.mem_iff_getElem.1 hs
      exact (hkt i hi).2
set_option maxRecDepth 100000 in
theorem nopen_feedc {fuel : Nat} {cs : List Value} {x : DataW H × List MemPlace} (h : DataW.trod enc Tryz.prog w base spare held fuel 35 cs = some x) (hz : Sj Tryz.prog 35 x.1) : ∃ (f : FeedD) (p : Option Addr) (c : Nat) (q : Option Addr) (d : Nat), cs = [.slice p f.path.length c, .string f.id, .string f.title, .string f.link, .int .i64 f.upd, .slice q f.ents.length d] ∧ NamAt w p f.path ∧ EntsAt w q f.ents ∧ FOpn f ∧ f.ents.length ≤ d := by
  obtain ⟨f0, f1, f2, f3, f4, f5, hS, hT, hO, hC⟩ := mffields
  simp only [List.cons.injEq, and_true] at hT hO
  obtain ⟨t0, t1, t2, t3, t4, t5⟩ := hT
  obtain ⟨o0, o1, o2, o3, o4, o5⟩ := hO
  obtain ⟨us, ui, ul, ue, -⟩ := meone
  obtain ⟨n, hn, hl, hf⟩ := jopen_cells hS h
  rw [hC] at hl
  obtain ⟨c0, c1, c2, c3, c4, c5, rfl⟩ := melist6 hl
  obtain ⟨y0, g0, z0⟩ := hf 0 f0 rfl
  obtain ⟨y1, g1, z1⟩ := hf 1 f1 rfl
  obtain ⟨y2, g2, z2⟩ := hf 2 f2 rfl
  obtain ⟨y3, g3, z3⟩ := hf 3 f3 rfl
  obtain ⟨y4, g4, -⟩ := hf 4 f4 rfl
  obtain ⟨y5, g5, z5⟩ := hf 5 f5 rfl
  rw [t0, o0, ul] at g0; rw [t1, o1, us] at g1; rw [t2, o2, us] at g2; rw [t3, o3, us] at g3; rw [t4, o4, ui] at g4; rw [t5, o5, ue] at g5
  rw [t0] at z0; rw [t1] at z1; rw [t2] at z2; rw [t3] at z3; rw [t5] at z5
  obtain ⟨p, c, l, e0, hN, hNl, hNs⟩ := mopen_strs g0 (z0 hz)
  obtain ⟨s1, h1, b1⟩ := mopen_str g1 (z1 hz)
  obtain ⟨s2, h2, b2⟩ := mopen_str g2 (z2 hz)
  obtain ⟨s3, h3, b3⟩ := mopen_str g3 (z3 hz)
  obtain ⟨k4, h4, -, hk4⟩ := DataW.trod_int Tryz.underlying2 g4
  obtain ⟨q, d, m, e5, hM, hMl, hMs, hMc⟩ := nopen_entsc g5 (z5 hz)
  cases h1; cases h2; cases h3; cases h4
  subst e0; subst e5
  have hr : -9223372036854775808 ≤ k4 ∧ k4 ≤ 9223372036854775807 := by simpa [Lit.wf, IntKind.min, IntKind.max, IntKind.signed, IntKind.bits] using hk4
  exact ⟨⟨l, s1, s2, s3, k4, m⟩, p, c, q, d, rfl, hN, hM, ⟨⟨⟨b1, b2, b3, hNs, hNl, fun e he => ⟨(hMs e he).id, (hMs e he).title, (hMs e he).link, (hMs e he).content⟩, hMl⟩, hr.1, hr.2⟩, hMs⟩, hMc⟩
end
end Go.Proofs.YtbfalppeifkjdaaGreatDoor
end
section
namespace Go.Proofs.YtbfalppeifkjdaaGreatDoor
open Go.RowKit
def alE : EntD := ⟨⟨#[32, 120, 32]⟩, ⟨#[]⟩, ⟨#[]⟩, ⟨#[]⟩, 0⟩
def alA (u : Int) : EntD := ⟨⟨#[97]⟩, ⟨#[]⟩, ⟨#[]⟩, ⟨#[]⟩, u⟩
def alF (u : Int) : FeedD := ⟨[], ⟨#[102]⟩, ⟨#[]⟩, ⟨#[]⟩, 0, [alA u]⟩
def alZ : FeedD := ⟨[], ⟨#[32]⟩, ⟨#[]⟩, ⟨#[]⟩, 0, []⟩
theorem al_chk (l : List UInt8) (h : l.all (fun c => decide (32 ≤ c.toNat ∧ c.toNat < 128)) = true) : (chk (ofBytes l)).2 = 0 := by
  induction l with
  | nil => exact nokL_nil
  | cons c r ih =>
    rw [List.all_cons, Bool.and_eq_true] at h
    have h1 := of_decide_eq_true h.1
    refine nokL_cons c r h1.2 (ih h.2) ?_
    unfold isCharB
    simp
    omega
theorem al_entX : entX alE = 0 ∧ nrmE alE = ⟨⟨#[120]⟩, ⟨#[]⟩, ⟨#[]⟩, ⟨#[]⟩, 0⟩ := by
  have h : entX alE = 0 := (entX_zero alE).2 ⟨⟨al_chk [32, 120, 32] (by decide), al_chk [] (by decide), al_chk [] (by decide), al_chk [] (by decide)⟩, fun h => absurd (h.symm.trans (show (colB alE.id).size = 1 by kernel_rfl)) (by decide), by decide⟩
  exact ⟨h, by unfold nrmE; rw [if_pos h]; kernel_rfl⟩
theorem al_feedX (u : Int) (hu : inTB u = true) : feedX (alF u) = 0 := (feedX_zero (alF u)).2 ⟨⟨fun s hs => (by cases hs), al_chk [102] (by decide), al_chk [] (by decide), al_chk [] (by decide)⟩, ⟨by
    have h : (colB (alF u).id).size = 1 := by kernel_rfl
    omega, fun s hs => (by cases hs)⟩, Nat.zero_le _, rfl, fun e he => by
    rw [List.mem_singleton.1 he]
    refine (entX_zero (alA u)).2 ⟨⟨al_chk [97] (by decide), al_chk [] (by decide), al_chk [] (by decide), al_chk [] (by decide)⟩, ?_, hu⟩
    have h : (colB (alA u).id).size = 1 := by kernel_rfl
    omega⟩
theorem al_archX : archX [alF 1, alF 2] = 0 := (archX_zero _).2 fun f hf => by
  simp only [List.mem_cons, List.not_mem_nil, or_false] at hf
  rcases hf with rfl | rfl
  · exact al_feedX 1 (by decide)
  · exact al_feedX 2 (by decide)
theorem al_archN : archN [alF 1, alF 2] = [alF 2] := by kernel_rfl
theorem al_feedZ : feedX alZ = 19 := by
  unfold feedX
  rw [if_pos ((chkLs_zero _).2 fun s hs => by
    simp only [alZ, List.nil_append, List.mem_cons, List.not_mem_nil, or_false] at hs
    rcases hs with rfl | rfl | rfl
    · exact al_chk [32] (by decide)
    · exact al_chk [] (by decide)
    · exact al_chk [] (by decide))]
  rw [if_pos (show missF alZ = true by kernel_rfl)]
theorem al_small1 : FIn (alF 1) := ⟨⟨⟨by decide, by decide, by decide, fun s hs => (by cases hs), by decide, by decide, fun e he => (by rw [List.mem_singleton.1 he]; decide), by decide⟩, by decide, by decide⟩, fun e he => (by rw [List.mem_singleton.1 he]; decide)⟩
theorem al_small2 : FIn (alF 2) := ⟨⟨⟨by decide, by decide, by decide, fun s hs => (by cases hs), by decide, by decide, fun e he => (by rw [List.mem_singleton.1 he]; decide), by decide⟩, by decide, by decide⟩, fun e he => (by rw [List.mem_singleton.1 he]; decide)⟩
theorem alZ_small : FIn alZ := ⟨⟨⟨by decide, by decide, by decide, fun s hs => (by cases hs), by decide, by decide, fun e he => (by cases he), by decide⟩, by decide, by decide⟩, fun e he => (by cases he)⟩
set_option maxRecDepth 100000 in
set_option maxHeartbeats 16000000 in
theorem nz_alive (w : World) (hT : TabW w) : Calls Tryz.prog 10 #[] w fun e w' => e = .returned (.bool true) ∧ Below w.heap.size w w' := by
  have cE := nz_Entry alE w (by decide) (by decide) (by decide) (by decide) hT.1
  rw [al_entX.1, al_entX.2] at cE
  unfold EntV alE at cE
  dsimp only at cE
  have HT := Lib.hid hT
  clear hT
  go_enter Tryz.func10, Tryz.ntmps10
  go_wp2_with fail
  refine cE.mono ?_
  rintro e w1 ⟨rfl, b1⟩
  have HB1 := Lib.hid b1
  clear b1 cE
  go_upto_region 2 with fail
  go_wp2_with fail
  obtain ⟨Wa, hWa⟩ : ∃ W, W = w1.alloc (.cells #[.string ⟨#[120]⟩, .string ⟨#[]⟩, .string ⟨#[]⟩, .string ⟨#[]⟩, .int .i64 0] 23) := ⟨_, rfl⟩
  obtain ⟨Wb, hWb⟩ : ∃ W, W = Wa.alloc (.cells #[.string ⟨#[97]⟩, .string ⟨#[]⟩, .string ⟨#[]⟩, .string ⟨#[]⟩, .int .i64 1] 23) := ⟨_, rfl⟩
  obtain ⟨Wc, hWc⟩ : ∃ W, W = Wb.alloc (.cells #[.string ⟨#[97]⟩, .string ⟨#[]⟩, .string ⟨#[]⟩, .string ⟨#[]⟩, .int .i64 2] 23) := ⟨_, rfl⟩
  obtain ⟨Wd, hWd⟩ : ∃ W, W = Wc.alloc (.cells #[.slice none 0 0, .string ⟨#[102]⟩, .string ⟨#[]⟩, .string ⟨#[]⟩, .int .i64 0, .slice (some ⟨w1.heap.size + 1, 0, none⟩) 1 1, .slice none 0 0, .string ⟨#[102]⟩, .string ⟨#[]⟩, .string ⟨#[]⟩, .int .i64 0, .slice (some ⟨w1.heap.size + 1 + 1, 0, none⟩) 1 1] 35) := ⟨_, rfl⟩
  have za : Wa.heap.size = w1.heap.size + 1 := by rw [hWa]; simp
  have zb : Wb.heap.size = w1.heap.size + 1 + 1 := by rw [hWb, World.size_alloc, za]
  have zc : Wc.heap.size = w1.heap.size + 1 + 1 + 1 := by rw [hWc, World.size_alloc, zb]
  have ba : Below w1.heap.size w1 Wa := by rw [hWa]; exact (Below.refl _ _).alloc (Nat.le_refl _) _
  have bb : Below Wa.heap.size Wa Wb := by rw [hWb]; exact (Below.refl _ _).alloc (Nat.le_refl _) _
  have bc : Below Wb.heap.size Wb Wc := by rw [hWc]; exact (Below.refl _ _).alloc (Nat.le_refl _) _
  have bd : Below Wc.heap.size Wc Wd := by rw [hWd]; exact (Below.refl _ _).alloc (Nat.le_refl _) _
  have mX : MBlk Wa w1.heap.size #[.string ⟨#[120]⟩, .string ⟨#[]⟩, .string ⟨#[]⟩, .string ⟨#[]⟩, .int .i64 0] 23 := by rw [hWa]; exact heap_alloc_new _ _
  have m1 : MBlk Wb (w1.heap.size + 1) #[.string ⟨#[97]⟩, .string ⟨#[]⟩, .string ⟨#[]⟩, .string ⟨#[]⟩, .int .i64 1] 23 := by
    have := heap_alloc_new Wa (.cells #[.string ⟨#[97]⟩, .string ⟨#[]⟩, .string ⟨#[]⟩, .string ⟨#[]⟩, .int .i64 1] 23)
    rw [za] at this
    rw [hWb]
    exact this
  have m2 : MBlk Wc (w1.heap.size + 1 + 1) #[.string ⟨#[97]⟩, .string ⟨#[]⟩, .string ⟨#[]⟩, .string ⟨#[]⟩, .int .i64 2] 23 := by
    have := heap_alloc_new Wb (.cells #[.string ⟨#[97]⟩, .string ⟨#[]⟩, .string ⟨#[]⟩, .string ⟨#[]⟩, .int .i64 2] 23)
    rw [zb] at this
    rw [hWc]
    exact this
  have m3 : MBlk Wd (w1.heap.size + 1 + 1 + 1) #[.slice none 0 0, .string ⟨#[102]⟩, .string ⟨#[]⟩, .string ⟨#[]⟩, .int .i64 0, .slice (some ⟨w1.heap.size + 1, 0, none⟩) 1 1, .slice none 0 0, .string ⟨#[102]⟩, .string ⟨#[]⟩, .string ⟨#[]⟩, .int .i64 0, .slice (some ⟨w1.heap.size + 1 + 1, 0, none⟩) 1 1] 35 := by
    have := heap_alloc_new Wc (.cells #[.slice none 0 0, .string ⟨#[102]⟩, .string ⟨#[]⟩, .string ⟨#[]⟩, .int .i64 0, .slice (some ⟨w1.heap.size + 1, 0, none⟩) 1 1, .slice none 0 0, .string ⟨#[102]⟩, .string ⟨#[]⟩, .string ⟨#[]⟩, .int .i64 0, .slice (some ⟨w1.heap.size + 1 + 1, 0, none⟩) 1 1] 35)
    rw [zc] at this
    rw [hWd]
    exact this
  have mXd := (((mX.more bb).more bc).more bd)
  have m1d := (m1.more bc).more bd
  have m2d := m2.more bd
  have e1 : EntsAt Wd (some ⟨w1.heap.size + 1, 0, none⟩) [alA 1] := fun i hi => by
    match i, hi with
    | 0, _ => exact ⟨_, rfl, m1d.cell 0, by rw [add_two3]; exact m1d.cell 1, by rw [add_two3]; exact m1d.cell 2, by rw [add_two3]; exact m1d.cell 3, by rw [add_two3]; exact m1d.cell 4⟩
  have e2 : EntsAt Wd (some ⟨w1.heap.size + 1 + 1, 0, none⟩) [alA 2] := fun i hi => by
    match i, hi with
    | 0, _ => exact ⟨_, rfl, m2d.cell 0, by rw [add_two3]; exact m2d.cell 1, by rw [add_two3]; exact m2d.cell 2, by rw [add_two3]; exact m2d.cell 3, by rw [add_two3]; exact m2d.cell 4⟩
  have hFs : FeedsAt Wd (some ⟨w1.heap.size + 1 + 1 + 1, 0, none⟩) [alF 1, alF 2] := fun i hi => by
    match i, hi with
    | 0, _ => exact ⟨_, none, 0, some ⟨w1.heap.size + 1, 0, none⟩, 1, rfl, ⟨m3.cell 0, by rw [add_two3]; exact m3.cell 1, by rw [add_two3]; exact m3.cell 2, by rw [add_two3]; exact m3.cell 3, by rw [add_two3]; exact m3.cell 4, by rw [add_two3]; exact m3.cell 5⟩, fun i hi => absurd hi (Nat.not_lt_zero _), e1⟩
    | 1, _ => exact ⟨_, none, 0, some ⟨w1.heap.size + 1 + 1, 0, none⟩, 1, rfl, ⟨by rw [add_zero3]; exact m3.cell 6, by rw [add_two3]; exact m3.cell 7, by rw [add_two3]; exact m3.cell 8, by rw [add_two3]; exact m3.cell 9, by rw [add_two3]; exact m3.cell 10, by rw [add_two3]; exact m3.cell 11⟩, fun i hi => absurd hi (Nat.not_lt_zero _), e2⟩
  have hBd : Below w.heap.size w Wd := (((HB1.out.trans (ba.mono HB1.out.size)).trans (bb.mono (HB1.out.trans (ba.mono HB1.out.size)).size)).trans (bc.mono ((HB1.out.trans (ba.mono HB1.out.size)).trans (bb.mono (HB1.out.trans (ba.mono HB1.out.size)).size)).size)).trans (bd.mono (by have := HB1.out.size; have := za; have := zb; have := zc; omega))
  have cA := nz_Archive [alF 1, alF 2] (some ⟨w1.heap.size + 1 + 1 + 1, 0, none⟩) 2 Wd hFs (fun f hf => by
      simp only [List.mem_cons, List.not_mem_nil, or_false] at hf
      rcases hf with rfl | rfl
      · exact al_small1
      · exact al_small2) (by decide) (by decide) (TabW_below HT.out hBd)
  rw [al_archX, al_archN] at cA
  have HBd := Lib.hid hBd
  have HMX := Lib.hid mXd
  simp only [← hWa]
  simp only [← hWb]
  simp only [← hWc]
  simp only [← hWd]
  clear hWa hWb hWc hWd za zb zc ba bb bc bd mX m1 m2 m3 mXd m1d m2d e1 e2 hFs hBd
  refine cA.mono ?_
  rintro e w4 ⟨p4, c4, ys, rfl, hok, -, b4⟩
  obtain ⟨hm, hN, hk⟩ := hok rfl
  obtain ⟨y, rfl⟩ : ∃ y, ys = [y] := List.length_eq_one_iff.1 (by have := congrArg List.length hm; rw [List.length_map] at this; exact this)
  have hyf : y.f = alF 2 := List.cons.inj hm |>.1
  have hX4 := HMX.out.more b4
  have hB4 := HBd.out.trans (b4.mono HBd.out.size)
  obtain ⟨We, hWe⟩ : ∃ W, W = w4.alloc (.cells #[.slice p4 1 c4] 46) := ⟨_, rfl⟩
  have be : Below w4.heap.size w4 We := by rw [hWe]; exact (Below.refl _ _).alloc (Nat.le_refl _) _
  have hBe := hB4.trans (be.mono hB4.size)
  have mE : MBlk We w4.heap.size #[.slice p4 1 c4] 46 := by rw [hWe]; exact heap_alloc_new _ _
  have cF := nz_Feed alZ (.agg #[.slice none 0 0, .string ⟨#[32]⟩, .string ⟨#[]⟩, .string ⟨#[]⟩, .int .i64 0, .slice none 0 0]) We [] ⟨none, 0, none, 0, rfl, fun i hi => absurd hi (Nat.not_lt_zero _), fun i hi => absurd hi (Nat.not_lt_zero _)⟩ alZ_small.1 alZ_small.2 (fun j hj => by cases hj) (TabW_below HT.out hBe)
  rw [al_feedZ] at cF
  obtain ⟨p', cap', ep, -, hrow⟩ := hN
  obtain ⟨g, hg, -, -, hcell⟩ := hrow (List.cons_ne_nil _ _)
  cases ep
  subst hg
  obtain ⟨a, ha, hac⟩ := hk y (List.mem_singleton.2 rfl) |>.2 0 (by rw [hyf]; exact Nat.zero_lt_one)
  have q5 := (hcell 0 Nat.zero_lt_one 5 _ rfl).1
  have h4 : ∀ (f : FeedD) (h : 0 < f.ents.length), f = alF 2 → (entCells f.ents[0])[4]? = some (.int .i64 2) := fun f h e => by subst e; rfl
  have q4 := (holes_cell (hac 4 (.int .i64 2) (h4 _ _ hyf)).1).1
  clear h4
  rw [add_add] at q4
  simp only [Addr.add, Nat.zero_mul, Nat.zero_add, Nat.reduceEqDiff, ↓reduceIte] at q4
  simp only [List.getElem_cons_zero, Nat.zero_mul, Nat.zero_add] at q5
  rw [ha, hyf] at q5
  have q5' : w4.cell? ⟨g, 5, none⟩ = some (.slice (some a) 1 y.d) := q5
  have HBe := Lib.hid hBe
  have HX4 := Lib.hid (hX4.more be)
  have Q5 := Lib.hid (mcell be q5')
  have Q4 := Lib.hid (mcell be q4)
  have HME := Lib.hid mE
  obtain ⟨be4, hbe4⟩ : ∃ n, n = w4.heap.size := ⟨_, rfl⟩
  have HBE4 := Lib.hid hbe4
  clear hok hm hk hyf hX4 hB4 be hBe mE hrow hcell ha hac q5 q4 q5' b4 cA hbe4 HMX HBd
  go_upto_region 3 with fail
  simp only [← hWe]
  clear hWe
  go_wp2_with fail
  refine cF.mono ?_
  rintro e w6 ⟨y6, rfl, -, b6⟩
  have x0 := (HX4.out.more b6).cell 0
  have x1 := (HME.out.more b6).cell 0
  have q5 := mcell b6 Q5.out
  have q4 := mcell b6 Q4.out
  simp only [List.getElem?_toArray, List.getElem?_cons_zero] at x0 x1
  have hf5 : ∀ o : Obj, Below w.heap.size w (w6.alloc o) := fun o => (HBe.out.trans (b6.mono HBe.out.size)).alloc (by have := HBe.out.size; have := b6.size; omega) o
  have HF5 := Lib.hid hf5
  have hlt : w4.heap.size < w6.heap.size := (HME.out.more b6).lt
  clear b6 cF hf5 HX4 HME Q4 Q5 HBe
  go_upto_region 4 with fail
  obtain ⟨W7, hW7⟩ : ∃ W, W = w6.alloc (.cells #[.slice y6.p y6.f.path.length y6.c, .string y6.f.id, .string y6.f.title, .string y6.f.link, .int .i64 y6.f.upd, .slice y6.q y6.f.ents.length y6.d] 35) := ⟨_, rfl⟩
  have b7 : Below w6.heap.size w6 W7 := by rw [hW7]; exact (Below.refl _ _).alloc (Nat.le_refl _) _
  replace x0 := mcell b7 x0
  replace x1 := mcell b7 x1
  replace q5 := mcell b7 q5
  replace q4 := mcell b7 q4
  have HF7 := Lib.hid (show Below w.heap.size w W7 by rw [hW7]; exact HF5.out _)
  simp only [← hW7]
  clear hW7 b7 HF5
  go_wp2
  go_ret
  exact ⟨rfl, HF7.out⟩
end Go.Proofs.YtbfalppeifkjdaaGreatDoor
end
section
namespace Go.Proofs.YtbfalppeifkjdaaGreatDoor
open Go.RowKit
def totE (l : List FeedD) : Nat := (l.flatMap FeedD.ents).length
theorem totE_cons (f : FeedD) (r : List FeedD) : totE (f :: r) = f.ents.length + totE r := by
  unfold totE
  rw [List.flatMap_cons, List.length_append]
theorem mgF_len (a b : FeedD) : (mgF a b).ents.length ≤ a.ents.length + b.ents.length := addsG_len b.ents a.ents
theorem takeG_tot : ∀ (l : List FeedD) (e : FeedD), (takeG FeedD.id mgF l e).1.ents.length + totE (takeG FeedD.id mgF l e).2 ≤ totE l + e.ents.length
  | [], e => by rw [takeG]; exact Nat.le_of_eq (Nat.add_comm _ _)
  | y :: r, e => by
    rw [takeG, totE_cons]
    split
    · have h1 := takeG_tot r (mgF y e)
      have h2 := mgF_len y e
      omega
    · have h1 := takeG_tot r e
      show (takeG FeedD.id mgF r e).1.ents.length + totE (y :: (takeG FeedD.id mgF r e).2) ≤ _
      rw [totE_cons]
      omega
theorem insG_tot (e : FeedD) : ∀ l : List FeedD, totE (insG cmpF e l) = e.ents.length + totE l
  | [] => by rw [insG, totE_cons]
  | y :: r => by
    rw [insG]
    split
    · rw [totE_cons]
    · rw [totE_cons, insG_tot e r, totE_cons]
      omega
theorem adds_tot : ∀ (es l : List FeedD), totE (addsG FeedD.id cmpF mgF l es) ≤ totE l + totE es
  | [], _ => Nat.le_refl _
  | e :: es, l => by
    have h1 := adds_tot es (addG FeedD.id cmpF mgF l e)
    have h2 : totE (addG FeedD.id cmpF mgF l e) ≤ totE l + e.ents.length := by
      unfold addG
      rw [insG_tot]
      exact takeG_tot l e
    rw [totE_cons]
    show totE (addsG FeedD.id cmpF mgF (addG FeedD.id cmpF mgF l e) es) ≤ _
    omega
theorem tot_mem : ∀ (l : List FeedD) (f : FeedD), f ∈ l → f.ents.length ≤ totE l
  | y :: r, f, h => by
    rw [totE_cons]
    rcases List.mem_cons.1 h with rfl | h
    · omega
    · have := tot_mem r f h
      omega
theorem totN_le : ∀ l : List FeedD, totE (l.map feedN) ≤ totE l
  | [] => Nat.le_refl _
  | f :: r => by
    have h1 := feedN_elen f
    have h2 := totN_le r
    rw [List.map_cons, totE_cons, totE_cons]
    omega
theorem archN_len {l : List FeedD} (hF : ∀ f ∈ l, FIn f) (ht : totE l ≤ 1000000) : ∀ g ∈ archN l, g.path.length ≤ 100000000 ∧ g.ents.length ≤ 100000000 := fun g hg => by
  constructor
  · have h1 : g.path.length ≤ 5000 := addsG_all (key := FeedD.id) (c := cmpF) (mg := mgF) (fun f : FeedD => f.path.length ≤ 5000) (fun a b ha hb => by
      show (ltF a b).path.length ≤ 5000
      unfold ltF
      split
      · exact hb
      · exact ha) (l.map feedN) [] (fun f hf => absurd hf List.not_mem_nil) (fun f hf => by
      obtain ⟨x, hx, rfl⟩ := List.mem_map.1 hf
      exact (feedN_small (hF x hx)).1.plen) g hg
    omega
  · have h1 := tot_mem _ g hg
    have h2 := adds_tot (l.map feedN) []
    have h3 := totN_le l
    have h4 : totE ([] : List FeedD) = 0 := rfl
    have h5 : totE (archN l) ≤ totE [] + totE (l.map feedN) := h2
    omega
end Go.Proofs.YtbfalppeifkjdaaGreatDoor
end
