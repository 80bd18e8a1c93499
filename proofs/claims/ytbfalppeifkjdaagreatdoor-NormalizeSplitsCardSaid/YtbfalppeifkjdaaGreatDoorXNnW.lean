/- Packed from the texts NnW. -/
import Derived.Test.YtbfalppeifkjdaaGreatDoorXNnV
import Derived.Test.YtbfalppeifkjdaaGreatDoorXm2
import Derived.Test.YtbfalppeifkjdaaGreatDoorXm8
section
namespace Go.Proofs.YtbfalppeifkjdaaGreatDoor
open Go.RowKit
set_option maxRecDepth 100000 in
theorem feed_two {w : World} {f g : FeedD} {p1 : Option Addr} {c1 : Nat} {q1 : Option Addr} {d1 : Nat} {p2 : Option Addr} {c2 : Nat} {q2 : Option Addr} {d2 : Nat} (hp : NamAt w p1 f.path) (he : EntsAt w q1 f.ents) (hp2 : NamAt w p2 g.path) (he2 : EntsAt w q2 g.ents) : FeedsAt (w.alloc (.cells #[.slice p1 f.path.length c1, .string f.id, .string f.title, .string f.link, .int .i64 f.upd, .slice q1 f.ents.length d1, .slice p2 g.path.length c2, .string g.id, .string g.title, .string g.link, .int .i64 g.upd, .slice q2 g.ents.length d2] 35)) (some ⟨w.heap.size, 0, none⟩) [f, g] := by
  have hb : Below w.heap.size w (w.alloc (.cells #[.slice p1 f.path.length c1, .string f.id, .string f.title, .string f.link, .int .i64 f.upd, .slice q1 f.ents.length d1, .slice p2 g.path.length c2, .string g.id, .string g.title, .string g.link, .int .i64 g.upd, .slice q2 g.ents.length d2] 35)) := (Below.refl _ _).alloc (Nat.le_refl _) _
  have h := heap_alloc_new w (.cells #[.slice p1 f.path.length c1, .string f.id, .string f.title, .string f.link, .int .i64 f.upd, .slice q1 f.ents.length d1, .slice p2 g.path.length c2, .string g.id, .string g.title, .string g.link, .int .i64 g.upd, .slice q2 g.ents.length d2] 35)
  intro i hi
  match i, hi with
  | 0, _ => exact ⟨_, p1, c1, q1, d1, rfl, ⟨cell_of_row _ _ 0 _ _ _ h, cell_of_row _ _ 1 _ _ _ h, cell_of_row _ _ 2 _ _ _ h, cell_of_row _ _ 3 _ _ _ h, cell_of_row _ _ 4 _ _ _ h, cell_of_row _ _ 5 _ _ _ h⟩, hp.below hb, he.below hb⟩
  | 1, _ => exact ⟨_, p2, c2, q2, d2, rfl, ⟨cell_of_row _ _ 6 _ _ _ h, cell_of_row _ _ 7 _ _ _ h, cell_of_row _ _ 8 _ _ _ h, cell_of_row _ _ 9 _ _ _ h, cell_of_row _ _ 10 _ _ _ h, cell_of_row _ _ 11 _ _ _ h⟩, hp2.below hb, he2.below hb⟩
set_option maxRecDepth 100000 in
theorem nz_split {w : World} {q : Option Addr} {l : List EntD} {d n : Nat} (he : EntsAt w q l) (hd : l.length ≤ d) (hn : n ≤ l.length) : ∃ q2, (∀ wx, (Instr.slice 33 (.slice q l.length d) none (some (.int .i64 (n : Int))) (some (.int .i64 (n : Int)))).run Tryz.prog wx = .ok (.slice q n n) wx) ∧ (∀ wx, (Instr.slice 33 (.slice q l.length d) (some (.int .i64 (n : Int))) none none).run Tryz.prog wx = .ok (.slice q2 (l.length - n) (d - n)) wx) ∧ EntsAt w q2 (l.drop n) := by
  refine ⟨if d = n then q else q.map (·.add (n * 5)), fun wx => ?_, fun wx => ?_, ?_⟩
  · rw [run_slice_hm (P := Tryz.prog) (w := wx) 33 q l.length d Tryz.underlying33 .i64 .i64 (n : Int) (n : Int) (by omega) (by omega) (by omega), nz_size5]
    simp only [Result.andThen, sliced, Int.toNat_natCast, Nat.sub_zero, Nat.zero_mul]
    have : (q.map fun x => x.add 0) = q := by cases q <;> rfl
    rw [this, ite_self]
  · rw [run_slice_l (P := Tryz.prog) (w := wx) 33 q l.length d Tryz.underlying33 .i64 (n : Int) (by omega) (by omega), nz_size5]
    simp only [Result.andThen, sliced, Int.toNat_natCast]
  · by_cases hdn : d = n
    · rw [if_pos hdn]
      exact fun i hi => by rw [List.length_drop] at hi; omega
    · rw [if_neg hdn]
      cases q with
      | none =>
        intro i hi
        rw [List.length_drop] at hi
        obtain ⟨a, ha, -⟩ := he 0 (by omega)
        cases ha
      | some a => exact ents_drop he n
def archL (l : List FeedD) : List FeedD := if archX l = 0 then archN l else []
theorem nz_ArchL (l : List FeedD) (p : Option Addr) (c : Nat) (w : World) (hl : FeedsAt w p l) (hF : ∀ f ∈ l, FIn f) (hn : l.length ≤ 1000000) (ht : (l.flatMap FeedD.ents).length ≤ 1000000) (hT : TabW w) :
    Calls Tryz.prog 19 #[.slice p l.length c] w fun e w' => ∃ p' c', e = .returned (.tuple #[.agg #[.slice p' (archL l).length c'], .int .i64 (archX l)]) ∧ FeedsAt w' p' (archL l) ∧ Below w.heap.size w w' := by
  refine (nz_Archive l p c w hl hF hn ht hT).mono ?_
  rintro e w' ⟨p', c', ys, rfl, h1, h2, hb⟩
  unfold archL
  by_cases hx : archX l = 0
  · obtain ⟨hyf, hN, hok⟩ := h1 hx
    have hFy := feeds_new hN hok
    rw [hyf] at hFy
    rw [if_pos hx]
    exact ⟨p', c', by rw [← hyf, List.length_map], hFy, hb⟩
  · rw [if_neg hx]
    have hy := h2 hx
    subst hy
    exact ⟨p', c', rfl, fun i hi => absurd hi (Nat.not_lt_zero _), hb⟩
theorem fin_part {f : FeedD} {l : List EntD} (h : FIn f) (hl : ∀ e ∈ l, e ∈ f.ents) (hn : l.length ≤ f.ents.length) : FIn { f with ents := l } := by
  exact ⟨⟨⟨h.1.1.id, h.1.1.title, h.1.1.link, h.1.1.path, h.1.1.plen, h.1.1.qu, fun e he => h.1.1.ents e (hl e he), Nat.le_trans hn h.1.1.elen⟩, h.1.2⟩, fun e he => h.2 e (hl e he)⟩
theorem fbox_below {w w' : World} {b : Nat} {v0 v1 v2 v3 v4 v5 : Value} (hb : Below w.heap.size w w') (h : w.cell? ⟨b, 0, none⟩ = some v0 ∧ w.cell? ⟨b, 1, none⟩ = some v1 ∧ w.cell? ⟨b, 2, none⟩ = some v2 ∧ w.cell? ⟨b, 3, none⟩ = some v3 ∧ w.cell? ⟨b, 4, none⟩ = some v4 ∧ w.cell? ⟨b, 5, none⟩ = some v5) : w'.cell? ⟨b, 0, none⟩ = some v0 ∧ w'.cell? ⟨b, 1, none⟩ = some v1 ∧ w'.cell? ⟨b, 2, none⟩ = some v2 ∧ w'.cell? ⟨b, 3, none⟩ = some v3 ∧ w'.cell? ⟨b, 4, none⟩ = some v4 ∧ w'.cell? ⟨b, 5, none⟩ = some v5 := ⟨mcell hb h.1, mcell hb h.2.1, mcell hb h.2.2.1, mcell hb h.2.2.2.1, mcell hb h.2.2.2.2.1, mcell hb h.2.2.2.2.2⟩
theorem ns_set5 {w : World} {b : Nat} {T : TypeId} {u0 u1 u2 u3 u4 u5 : Value} (h : MBlk w b #[u0, u1, u2, u3, u4, u5] T) (v : Value) : MBlk (w.setCell ⟨b, 5, none⟩ v) b #[u0, u1, u2, u3, u4, v] T := by
  have := heap_setCell_same _ b 5 _ _ v h
  rwa [show (#[u0, u1, u2, u3, u4, u5] : Array Value).setIfInBounds 5 v = #[u0, u1, u2, u3, u4, v] from rfl] at this
theorem fbox_under {B : Nat} {w w' : World} {b : Nat} {v0 v1 v2 v3 v4 v5 : Value} (hb : Below B w w') (hlt : b < B) (h : w.cell? ⟨b, 0, none⟩ = some v0 ∧ w.cell? ⟨b, 1, none⟩ = some v1 ∧ w.cell? ⟨b, 2, none⟩ = some v2 ∧ w.cell? ⟨b, 3, none⟩ = some v3 ∧ w.cell? ⟨b, 4, none⟩ = some v4 ∧ w.cell? ⟨b, 5, none⟩ = some v5) : w'.cell? ⟨b, 0, none⟩ = some v0 ∧ w'.cell? ⟨b, 1, none⟩ = some v1 ∧ w'.cell? ⟨b, 2, none⟩ = some v2 ∧ w'.cell? ⟨b, 3, none⟩ = some v3 ∧ w'.cell? ⟨b, 4, none⟩ = some v4 ∧ w'.cell? ⟨b, 5, none⟩ = some v5 := ⟨(hb.cell (p := ⟨b, 0, none⟩) hlt).trans h.1, (hb.cell (p := ⟨b, 1, none⟩) hlt).trans h.2.1, (hb.cell (p := ⟨b, 2, none⟩) hlt).trans h.2.2.1, (hb.cell (p := ⟨b, 3, none⟩) hlt).trans h.2.2.2.1, (hb.cell (p := ⟨b, 4, none⟩) hlt).trans h.2.2.2.2.1, (hb.cell (p := ⟨b, 5, none⟩) hlt).trans h.2.2.2.2.2⟩
theorem archL_len {l : List FeedD} (hF : ∀ f ∈ l, FIn f) (ht : totE l ≤ 1000000) (hn : l.length ≤ 1000000) : (∀ g ∈ archL l, g.path.length ≤ 100000000 ∧ g.ents.length ≤ 100000000) ∧ (archL l).length ≤ 100000000 := by
  unfold archL
  split
  · refine ⟨archN_len hF ht, ?_⟩
    have h : (archN l).length ≤ ([] : List FeedD).length + (l.map feedN).length := addsG_len _ _
    rw [List.length_map] at h
    simp only [List.length_nil] at h
    omega
  · exact ⟨fun g hg => (by cases hg), Nat.zero_le _⟩
set_option maxRecDepth 100000 in
set_option maxHeartbeats 64000000 in
theorem walk_NSplitsA (f : FeedD) (p : Option Addr) (c : Nat) (q : Option Addr) (d : Nat) (k : Int) (w : World) (hp : NamAt w p f.path) (hq : EntsAt w q f.ents) (hO : FOpn f) (hT : TabW w) (hx : lgN [f] = true) :
    Calls Tryz.prog 8 #[.agg #[.slice p f.path.length c, .string f.id, .string f.title, .string f.link, .int .i64 f.upd, .slice q f.ents.length d], .int .u8 k] w fun e' w' => e' = .returned (.bool true) ∧ Below w.heap.size w w' := by
  obtain ⟨W0, hW0⟩ : ∃ W0, W0 = w.alloc (.cells #[.slice p f.path.length c, .string f.id, .string f.title, .string f.link, .int .i64 f.upd, .slice q f.ents.length d] 35) := ⟨_, rfl⟩
  obtain ⟨b, hb⟩ : ∃ b, b = w.heap.size := ⟨_, rfl⟩
  have hB0 : Below w.heap.size w W0 := by rw [hW0]; exact (Below.refl _ _).alloc (Nat.le_refl _) _
  have hX : FBox W0 b f p c q d := by rw [hW0, hb]; exact FBox.new w f p c q d
  have hA1 : Below W0.heap.size W0 (W0.alloc (.cells #[.slice p f.path.length c, .string f.id, .string f.title, .string f.link, .int .i64 f.upd, .slice q f.ents.length d] 35)) := (Below.refl _ _).alloc (Nat.le_refl _) _
  have cL := law_largeN [f] (some ⟨W0.heap.size, 0, none⟩) 1 _ (feed_one (c := c) (d := d) (hp.below hB0) (hq.below hB0)) (fun g hg => by rw [List.mem_singleton.1 hg]; exact hO.1.1) (by show 1 ≤ _; decide)
  rw [hx, show ([f] : List FeedD).length = 1 from rfl] at cL
  have hB1 := hB0.trans (hA1.mono hB0.size)
  have hX1 := hX.below hA1
  obtain ⟨W1, hW1⟩ : ∃ W1, W1 = W0.alloc (.cells #[.slice p f.path.length c, .string f.id, .string f.title, .string f.link, .int .i64 f.upd, .slice q f.ents.length d] 35) := ⟨_, rfl⟩
  rw [← hW1] at cL hB1 hX1
  clear hA1
  obtain ⟨e0, e1, e2, e3, e4, e5⟩ := hX
  have HB := Lib.hid hB1
  have HT := Lib.hid hT
  have HBW := Lib.hid hb
  clear hp hq hO hT hx hB0 hB1 hX1 hb
  go_enter Tryz.func8, Tryz.ntmps8
  go_upto_region 1 with fail
  simp only [← hW0, ← HBW.out]
  clear hW0
  go_wp2_with fail
  simp only [← hW1]
  refine cL.mono ?_
  rintro e w2 ⟨rfl, b2⟩
  have HB2 := Lib.hid (HB.out.trans (b2.mono HB.out.size))
  have cA := nz_alive w2 (TabW_below HT.out HB2.out)
  clear b2 cL hW1
  go_wp2_with fail
  refine cA.mono ?_
  rintro e3 w3 ⟨rfl, b3⟩
  have HB3 := Lib.hid (HB2.out.trans (b3.mono HB2.out.size))
  clear b3 cA
  go_wp2
  go_ret
  exact ⟨rfl, HB3.out⟩
def nsC2 : Oper := { dst := some 6, op := Go.Op.alloc 35, type := 0, pos := "law.go:105", after := #[], guard := none }
def nsC3 : Oper := { dst := some 7, op := Go.Op.alloc 35, type := 0, pos := "law.go:105", after := #[], guard := none }
def nsC4 : Oper := { dst := none, op := Go.Op.store 35 (Go.Operand.tmp 6) (Go.Operand.tmp 23), type := 0, pos := "law.go:105", after := #[{ on := 2, ground := Go.Ground.data }, { on := 0, ground := Go.Ground.data }, { on := 0, ground := Go.Ground.phase }, { on := 1, ground := Go.Ground.textOnly Go.Departure.lateStores }, { on := 2, ground := Go.Ground.phase }, { on := 3, ground := Go.Ground.phase }], guard := none }
def nsC5 : Oper := { dst := none, op := Go.Op.store 35 (Go.Operand.tmp 7) (Go.Operand.tmp 24), type := 0, pos := "law.go:105", after := #[{ on := 3, ground := Go.Ground.data }, { on := 1, ground := Go.Ground.data }, { on := 4, ground := Go.Ground.chain }, { on := 0, ground := Go.Ground.phase }, { on := 1, ground := Go.Ground.phase }, { on := 2, ground := Go.Ground.phase }, { on := 3, ground := Go.Ground.phase }, { on := 4, ground := Go.Ground.phase }], guard := none }
set_option maxRecDepth 100000 in
set_option maxHeartbeats 64000000 in
theorem walk_NSplitsB (f : FeedD) (p : Option Addr) (c : Nat) (q : Option Addr) (d : Nat) (k : Int) (w : World) (hp : NamAt w p f.path) (hq : EntsAt w q f.ents) (hO : FOpn f) (hT : TabW w) (hx : lgN [f] = false) (hd : f.ents.length ≤ d) (hk0 : 0 ≤ k) (hk1 : k ≤ 255) :
    Calls Tryz.prog 8 #[.agg #[.slice p f.path.length c, .string f.id, .string f.title, .string f.link, .int .i64 f.upd, .slice q f.ents.length d], .int .u8 k] w fun e' w' => e' = .returned (.bool true) ∧ Below w.heap.size w w' := by
  obtain ⟨W0, hW0⟩ : ∃ W0, W0 = w.alloc (.cells #[.slice p f.path.length c, .string f.id, .string f.title, .string f.link, .int .i64 f.upd, .slice q f.ents.length d] 35) := ⟨_, rfl⟩
  obtain ⟨b, hb⟩ : ∃ b, b = w.heap.size := ⟨_, rfl⟩
  have hB0 : Below w.heap.size w W0 := by rw [hW0]; exact (Below.refl _ _).alloc (Nat.le_refl _) _
  have hX : FBox W0 b f p c q d := by rw [hW0, hb]; exact FBox.new w f p c q d
  have hA1 : Below W0.heap.size W0 (W0.alloc (.cells #[.slice p f.path.length c, .string f.id, .string f.title, .string f.link, .int .i64 f.upd, .slice q f.ents.length d] 35)) := (Below.refl _ _).alloc (Nat.le_refl _) _
  have cL := law_largeN [f] (some ⟨W0.heap.size, 0, none⟩) 1 _ (feed_one (c := c) (d := d) (hp.below hB0) (hq.below hB0)) (fun g hg => by rw [List.mem_singleton.1 hg]; exact hO.1.1) (by show 1 ≤ _; decide)
  rw [hx, show ([f] : List FeedD).length = 1 from rfl] at cL
  have hB1 := hB0.trans (hA1.mono hB0.size)
  have hX1 := hX.below hA1
  obtain ⟨W1, hW1⟩ : ∃ W1, W1 = W0.alloc (.cells #[.slice p f.path.length c, .string f.id, .string f.title, .string f.link, .int .i64 f.upd, .slice q f.ents.length d] 35) := ⟨_, rfl⟩
  rw [← hW1] at cL hB1 hX1
  clear hA1
  obtain ⟨e0, e1, e2, e3, e4, e5⟩ := hX
  have hsm := (lgN_small hx).2 f (List.mem_singleton.2 rfl)
  have helen := hsm.elen
  obtain ⟨n, hn⟩ : ∃ n : Nat, n = (k.tmod ((f.ents.length : Int) + 1)).toNat := ⟨_, rfl⟩
  have hkn : k.tmod ((f.ents.length : Int) + 1) = (n : Int) := by
    have := Int.tmod_nonneg ((f.ents.length : Int) + 1) hk0
    omega
  have hnl : n ≤ f.ents.length := by
    have := Int.tmod_lt_of_pos k (show (0 : Int) < (f.ents.length : Int) + 1 by omega)
    omega
  have hwk : IntKind.i64.wrap k = k := wrap_small _ (by omega) (by omega)
  have hwa : IntKind.i64.wrap ((f.ents.length : Int) + 1) = (f.ents.length : Int) + 1 := wrap_small _ (by omega) (by omega)
  have hwn : IntKind.i64.wrap (n : Int) = (n : Int) := wrap_small _ (by omega) (by omega)
  have hnz : ¬ (f.ents.length : Int) + 1 = 0 := by omega
  obtain ⟨q2, hs1, hs2, he2⟩ := nz_split (n := n) hq hd hnl
  have he1 := ents_take hq n
  have hsz1 : w.heap.size < W1.heap.size := by rw [hW1, hW0]; simp only [World.size_alloc]; omega
  have HB := Lib.hid hB1
  have HT := Lib.hid hT
  have HBW := Lib.hid hb
  have HX1 := Lib.hid hX1
  have HWK := Lib.hid hwk
  have HWA := Lib.hid hwa
  have HWN := Lib.hid hwn
  have HKN := Lib.hid hkn
  have HP := Lib.hid hp
  have HQ := Lib.hid hq
  have HE1 := Lib.hid he1
  have HE2 := Lib.hid he2
  have HS := Lib.hid hsm
  have HO := Lib.hid hO
  have HNL := Lib.hid hnl
  have HK0 := Lib.hid hk0
  have HK1 := Lib.hid hk1
  have HNZ := Lib.hid hnz
  have HD := Lib.hid hd
  have HSZ := Lib.hid hsz1
  clear hp hq hO hT hx hB0 hB1 hX1 hb hwk hwa hwn hkn hn he1 he2 hsm hnl hsz1 helen hk0 hk1 hnz hd
  go_enter Tryz.func8, Tryz.ntmps8
  go_upto_region 1 with fail
  simp only [← hW0, ← HBW.out]
  clear hW0
  go_wp2_with fail
  simp only [← hW1]
  refine cL.mono ?_
  rintro e w2 ⟨rfl, b2⟩
  have HB2 := Lib.hid (HB.out.trans (b2.mono HB.out.size))
  have hX2 := HX1.out.below b2
  have hlt2 : b < w2.heap.size := by have h1 := b2.size; have h2 := HSZ.out; have h3 := HBW.out; omega
  clear b2 cL hW1 e0 e1 e2 e3 e4 e5 HX1
  obtain ⟨e0, e1, e2, e3, e4, e5⟩ := hX2
  have hwk := HWK.out
  have hwa := HWA.out
  have hkn := HKN.out
  have hwn := HWN.out
  have hnz := HNZ.out
  have HA2 := Lib.hid HB2.out
  have SE : (w2.cell? ⟨b, 0, none⟩ = some (.slice p f.path.length c) ∧ w2.cell? ⟨b, 1, none⟩ = some (.string f.id) ∧ w2.cell? ⟨b, 2, none⟩ = some (.string f.title) ∧ w2.cell? ⟨b, 3, none⟩ = some (.string f.link) ∧ w2.cell? ⟨b, 4, none⟩ = some (.int .i64 f.upd) ∧ w2.cell? ⟨b, 5, none⟩ = some (.slice q f.ents.length d)) := ⟨e0, e1, e2, e3, e4, e5⟩
  go_upto_region 4 with fail
  clear hwk hwa hkn hwn hnz
  go_cut [6, 7] (fun u v wx => ∃ ng nh : Nat, u = .pointer (some ⟨ng, 0, none⟩) ∧ v = .pointer (some ⟨nh, 0, none⟩) ∧ MBlk wx ng #[.slice p f.path.length c, .string f.id, .string f.title, .string f.link, .int .i64 f.upd, .slice q f.ents.length d] 35 ∧ MBlk wx nh #[.slice p f.path.length c, .string f.id, .string f.title, .string f.link, .int .i64 f.upd, .slice q f.ents.length d] 35 ∧ ng ≠ nh ∧ b < ng ∧ b < nh ∧ (wx.cell? ⟨b, 0, none⟩ = some (.slice p f.path.length c) ∧ wx.cell? ⟨b, 1, none⟩ = some (.string f.id) ∧ wx.cell? ⟨b, 2, none⟩ = some (.string f.title) ∧ wx.cell? ⟨b, 3, none⟩ = some (.string f.link) ∧ wx.cell? ⟨b, 4, none⟩ = some (.int .i64 f.upd) ∧ wx.cell? ⟨b, 5, none⟩ = some (.slice q f.ents.length d)) ∧ Below w2.heap.size w2 wx)
  case first =>
    clear e0 e1 e2 e3 e4 e5 hs1 hs2
    go_wp2
    have SD : (w2.drew.cell? ⟨b, 0, none⟩ = some (.slice p f.path.length c) ∧ w2.drew.cell? ⟨b, 1, none⟩ = some (.string f.id) ∧ w2.drew.cell? ⟨b, 2, none⟩ = some (.string f.title) ∧ w2.drew.cell? ⟨b, 3, none⟩ = some (.string f.link) ∧ w2.drew.cell? ⟨b, 4, none⟩ = some (.int .i64 f.upd) ∧ w2.drew.cell? ⟨b, 5, none⟩ = some (.slice q f.ents.length d)) := SE
    have hltd : b < w2.drew.heap.size := hlt2
    have bd : Below w2.heap.size w2 w2.drew := (Below.refl _ _).drew
    clear SE hlt2
    refine wp_region_late (S := fun w' => (w'.cell? ⟨b, 0, none⟩ = some (.slice p f.path.length c) ∧ w'.cell? ⟨b, 1, none⟩ = some (.string f.id) ∧ w'.cell? ⟨b, 2, none⟩ = some (.string f.title) ∧ w'.cell? ⟨b, 3, none⟩ = some (.string f.link) ∧ w'.cell? ⟨b, 4, none⟩ = some (.int .i64 f.upd) ∧ w'.cell? ⟨b, 5, none⟩ = some (.slice q f.ents.length d))) (D := []) (by kernel_rfl) ?_
    generalize w2.drew = Wd at *
    have HBD := Lib.hid bd
    have D0 := Below.refl Wd.heap.size Wd
    have SD0 := SD
    clear bd
    refine anyL_take (i := 0) (oi := { dst := some 23, op := Go.Op.load 35 (Go.Operand.tmp 2), type := 35, pos := "law.go:105", after := #[], guard := none }) (v := ?_) rfl (by decide) (by kernel_rfl) (by kernel_rfl) (by kernel_rfl) (by kernel_rfl) (fun _ _ _ h => h) (Or.inl ⟨by rfl, ?_⟩) SD ?_
    rotate_left
    · intro wz hSz
      obtain ⟨z0, z1, z2, z3, z4, z5⟩ := hSz
      go_simp
      (try with_reducible rfl)
    try simp only [Act.put, List.setIfInBounds_toArray, List.set_cons_zero, List.set_cons_succ]
    refine anyL_take (i := 1) (oi := { dst := some 24, op := Go.Op.load 35 (Go.Operand.tmp 2), type := 35, pos := "law.go:105", after := #[{ on := 4, ground := Go.Ground.gcOnly Go.Departure.lateStores }], guard := none }) (v := ?_) rfl (by decide) (by kernel_rfl) (by kernel_rfl) (by kernel_rfl) (by kernel_rfl) (fun _ _ _ h => h) (Or.inl ⟨by rfl, ?_⟩) SD ?_
    rotate_left
    · intro wz hSz
      obtain ⟨z0, z1, z2, z3, z4, z5⟩ := hSz
      go_simp
      (try with_reducible rfl)
    try simp only [Act.put, List.setIfInBounds_toArray, List.set_cons_zero, List.set_cons_succ]
    clear SD
    refine anyL_ready (rs := [2, 3]) (by kernel_rfl) (by simp) ?_
    refine AllL.cons (o := nsC2) rfl (fun K' hK => ?_) (AllL.cons (o := nsC3) rfl (fun K' hK => ?_) AllL.nil)
    · rw [if_pos (by rfl)]
      unfold nsC2
      go_simp
      obtain ⟨V1, hV1⟩ : ∃ V, V = Wd.alloc (.cells #[.slice none 0 0, .string ⟨#[]⟩, .string ⟨#[]⟩, .string ⟨#[]⟩, .int .i64 0, .slice none 0 0] 35) := ⟨_, rfl⟩
      obtain ⟨ng, hng⟩ : ∃ n, n = Wd.heap.size := ⟨_, rfl⟩
      have bb : Below Wd.heap.size Wd V1 := by rw [hV1]; exact (Below.refl _ _).alloc (Nat.le_refl _) _
      have M1_ng : MBlk V1 ng #[.slice none 0 0, .string ⟨#[]⟩, .string ⟨#[]⟩, .string ⟨#[]⟩, .int .i64 0, .slice none 0 0] 35 := by rw [hV1, hng]; exact heap_alloc_new _ _
      have D1 : Below Wd.heap.size Wd V1 := D0.trans (bb.mono D0.size)
      have Gng : b < ng := by rw [hng]; exact Nat.lt_of_lt_of_le hltd D0.size
      have Eng : Wd.heap.size ≤ ng := by rw [hng]; exact D0.size
      have SD1 := fbox_below D1 SD0
      simp only [← hV1, ← hng]
      refine hK _ _ SD1 ?_
      clear hK K' hV1 D0   bb hng
      try simp only [Act.put, List.setIfInBounds_toArray, List.set_cons_zero, List.set_cons_succ]
      refine anyL_ready (rs := [3]) (by kernel_rfl) (by simp) ?_
      refine AllL.cons (o := nsC3) rfl (fun K' hK => ?_) AllL.nil
      rw [if_pos (by rfl)]
      unfold nsC3
      go_simp
      obtain ⟨V2, hV2⟩ : ∃ V, V = V1.alloc (.cells #[.slice none 0 0, .string ⟨#[]⟩, .string ⟨#[]⟩, .string ⟨#[]⟩, .int .i64 0, .slice none 0 0] 35) := ⟨_, rfl⟩
      obtain ⟨nh, hnh⟩ : ∃ n, n = V1.heap.size := ⟨_, rfl⟩
      have bb : Below V1.heap.size V1 V2 := by rw [hV2]; exact (Below.refl _ _).alloc (Nat.le_refl _) _
      have M2_nh : MBlk V2 nh #[.slice none 0 0, .string ⟨#[]⟩, .string ⟨#[]⟩, .string ⟨#[]⟩, .int .i64 0, .slice none 0 0] 35 := by rw [hV2, hnh]; exact heap_alloc_new _ _
      have M2_ng := M1_ng.more bb
      have Qngnh : ng ≠ nh := by have := M1_ng.lt; omega
      have D2 : Below Wd.heap.size Wd V2 := D1.trans (bb.mono D1.size)
      have Gnh : b < nh := by rw [hnh]; exact Nat.lt_of_lt_of_le hltd D1.size
      have Enh : Wd.heap.size ≤ nh := by rw [hnh]; exact D1.size
      have SD2 := fbox_below D2 SD0
      simp only [← hV2, ← hnh]
      refine hK _ _ SD2 ?_
      clear hK K' hV2 D1 SD1 M1_ng bb hnh
      try simp only [Act.put, List.setIfInBounds_toArray, List.set_cons_zero, List.set_cons_succ]
      refine anyL_ready (rs := [4]) (by kernel_rfl) (by simp) ?_
      refine AllL.cons (o := nsC4) rfl (fun K' hK => ?_) AllL.nil
      rw [if_pos (by rfl)]
      unfold nsC4
      have r0 := M2_ng.cell 0
      have t0 := M2_ng.fr 0
      have r1 := M2_ng.cell 1
      have t1 := M2_ng.fr 1
      have r2 := M2_ng.cell 2
      have t2 := M2_ng.fr 2
      have r3 := M2_ng.cell 3
      have t3 := M2_ng.fr 3
      have r4 := M2_ng.cell 4
      have t4 := M2_ng.fr 4
      have r5 := M2_ng.cell 5
      have t5 := M2_ng.fr 5
      simp only [List.getElem?_toArray, List.getElem?_cons_zero, List.getElem?_cons_succ] at r0 r1 r2 r3 r4 r5
      go_simp
      obtain ⟨V3, hV3⟩ : ∃ V, V = ((((((V2.setCell ⟨ng, 0, none⟩ (.slice p f.path.length c)).setCell ⟨ng, 1, none⟩ (.string f.id)).setCell ⟨ng, 2, none⟩ (.string f.title)).setCell ⟨ng, 3, none⟩ (.string f.link)).setCell ⟨ng, 4, none⟩ (.int .i64 f.upd)).setCell ⟨ng, 5, none⟩ (.slice q f.ents.length d)) := ⟨_, rfl⟩
      have M3_ng : MBlk V3 ng #[.slice p f.path.length c, .string f.id, .string f.title, .string f.link, .int .i64 f.upd, .slice q f.ents.length d] 35 := by rw [hV3]; exact mblk_set6 M2_ng _ _ _ _ _ _
      have M3_nh := (show MBlk V3 nh _ _ by rw [hV3]; exact mq_far6 M2_nh (by first | exact Qnhng | exact fun e => Qngnh e.symm) _ _ _ _ _ _)
      have D3 : Below Wd.heap.size Wd V3 := by rw [hV3]; exact mq_belowset6 D2 Eng _ _ _ _ _ _
      have SD3 := fbox_below D3 SD0
      simp only [← hV3]
      refine hK _ _ SD3 ?_
      clear hK K' hV3 D2 SD2 M2_ng M2_nh r0 t0 r1 t1 r2 t2 r3 t3 r4 t4 r5 t5
      try simp only [Act.put, List.setIfInBounds_toArray, List.set_cons_zero, List.set_cons_succ]
      refine anyL_ready (rs := [5]) (by kernel_rfl) (by simp) ?_
      refine AllL.cons (o := nsC5) rfl (fun K' hK => ?_) AllL.nil
      rw [if_pos (by rfl)]
      unfold nsC5
      have r0 := M3_nh.cell 0
      have t0 := M3_nh.fr 0
      have r1 := M3_nh.cell 1
      have t1 := M3_nh.fr 1
      have r2 := M3_nh.cell 2
      have t2 := M3_nh.fr 2
      have r3 := M3_nh.cell 3
      have t3 := M3_nh.fr 3
      have r4 := M3_nh.cell 4
      have t4 := M3_nh.fr 4
      have r5 := M3_nh.cell 5
      have t5 := M3_nh.fr 5
      simp only [List.getElem?_toArray, List.getElem?_cons_zero, List.getElem?_cons_succ] at r0 r1 r2 r3 r4 r5
      go_simp
      obtain ⟨V4, hV4⟩ : ∃ V, V = ((((((V3.setCell ⟨nh, 0, none⟩ (.slice p f.path.length c)).setCell ⟨nh, 1, none⟩ (.string f.id)).setCell ⟨nh, 2, none⟩ (.string f.title)).setCell ⟨nh, 3, none⟩ (.string f.link)).setCell ⟨nh, 4, none⟩ (.int .i64 f.upd)).setCell ⟨nh, 5, none⟩ (.slice q f.ents.length d)) := ⟨_, rfl⟩
      have M4_nh : MBlk V4 nh #[.slice p f.path.length c, .string f.id, .string f.title, .string f.link, .int .i64 f.upd, .slice q f.ents.length d] 35 := by rw [hV4]; exact mblk_set6 M3_nh _ _ _ _ _ _
      have M4_ng := (show MBlk V4 ng _ _ by rw [hV4]; exact mq_far6 M3_ng (by first | exact Qngnh | exact fun e => Qnhng e.symm) _ _ _ _ _ _)
      have D4 : Below Wd.heap.size Wd V4 := by rw [hV4]; exact mq_belowset6 D3 Enh _ _ _ _ _ _
      have SD4 := fbox_below D4 SD0
      simp only [← hV4]
      refine hK _ _ SD4 ?_
      clear hK K' hV4 D3 SD3 M3_ng M3_nh r0 t0 r1 t1 r2 t2 r3 t3 r4 t4 r5 t5
      try simp only [Act.put, List.setIfInBounds_toArray, List.set_cons_zero, List.set_cons_succ]
      refine anyL_done (by kernel_rfl) ?_ _
      go_wp2
      go_meet
      exact ⟨ng, nh, rfl, rfl, M4_ng, M4_nh, Qngnh, Gng, Gnh, SD4, HBD.out.trans (D4.mono HBD.out.size)⟩
    · rw [if_pos (by rfl)]
      unfold nsC3
      go_simp
      obtain ⟨V1, hV1⟩ : ∃ V, V = Wd.alloc (.cells #[.slice none 0 0, .string ⟨#[]⟩, .string ⟨#[]⟩, .string ⟨#[]⟩, .int .i64 0, .slice none 0 0] 35) := ⟨_, rfl⟩
      obtain ⟨nh, hnh⟩ : ∃ n, n = Wd.heap.size := ⟨_, rfl⟩
      have bb : Below Wd.heap.size Wd V1 := by rw [hV1]; exact (Below.refl _ _).alloc (Nat.le_refl _) _
      have M1_nh : MBlk V1 nh #[.slice none 0 0, .string ⟨#[]⟩, .string ⟨#[]⟩, .string ⟨#[]⟩, .int .i64 0, .slice none 0 0] 35 := by rw [hV1, hnh]; exact heap_alloc_new _ _
      have D1 : Below Wd.heap.size Wd V1 := D0.trans (bb.mono D0.size)
      have Gnh : b < nh := by rw [hnh]; exact Nat.lt_of_lt_of_le hltd D0.size
      have Enh : Wd.heap.size ≤ nh := by rw [hnh]; exact D0.size
      have SD1 := fbox_below D1 SD0
      simp only [← hV1, ← hnh]
      refine hK _ _ SD1 ?_
      clear hK K' hV1 D0   bb hnh
      try simp only [Act.put, List.setIfInBounds_toArray, List.set_cons_zero, List.set_cons_succ]
      refine anyL_ready (rs := [2]) (by kernel_rfl) (by simp) ?_
      refine AllL.cons (o := nsC2) rfl (fun K' hK => ?_) AllL.nil
      rw [if_pos (by rfl)]
      unfold nsC2
      go_simp
      obtain ⟨V2, hV2⟩ : ∃ V, V = V1.alloc (.cells #[.slice none 0 0, .string ⟨#[]⟩, .string ⟨#[]⟩, .string ⟨#[]⟩, .int .i64 0, .slice none 0 0] 35) := ⟨_, rfl⟩
      obtain ⟨ng, hng⟩ : ∃ n, n = V1.heap.size := ⟨_, rfl⟩
      have bb : Below V1.heap.size V1 V2 := by rw [hV2]; exact (Below.refl _ _).alloc (Nat.le_refl _) _
      have M2_ng : MBlk V2 ng #[.slice none 0 0, .string ⟨#[]⟩, .string ⟨#[]⟩, .string ⟨#[]⟩, .int .i64 0, .slice none 0 0] 35 := by rw [hV2, hng]; exact heap_alloc_new _ _
      have M2_nh := M1_nh.more bb
      have Qnhng : nh ≠ ng := by have := M1_nh.lt; omega
      have D2 : Below Wd.heap.size Wd V2 := D1.trans (bb.mono D1.size)
      have Gng : b < ng := by rw [hng]; exact Nat.lt_of_lt_of_le hltd D1.size
      have Eng : Wd.heap.size ≤ ng := by rw [hng]; exact D1.size
      have SD2 := fbox_below D2 SD0
      simp only [← hV2, ← hng]
      refine hK _ _ SD2 ?_
      clear hK K' hV2 D1 SD1 M1_nh bb hng
      try simp only [Act.put, List.setIfInBounds_toArray, List.set_cons_zero, List.set_cons_succ]
      refine anyL_ready (rs := [4]) (by kernel_rfl) (by simp) ?_
      refine AllL.cons (o := nsC4) rfl (fun K' hK => ?_) AllL.nil
      rw [if_pos (by rfl)]
      unfold nsC4
      have r0 := M2_ng.cell 0
      have t0 := M2_ng.fr 0
      have r1 := M2_ng.cell 1
      have t1 := M2_ng.fr 1
      have r2 := M2_ng.cell 2
      have t2 := M2_ng.fr 2
      have r3 := M2_ng.cell 3
      have t3 := M2_ng.fr 3
      have r4 := M2_ng.cell 4
      have t4 := M2_ng.fr 4
      have r5 := M2_ng.cell 5
      have t5 := M2_ng.fr 5
      simp only [List.getElem?_toArray, List.getElem?_cons_zero, List.getElem?_cons_succ] at r0 r1 r2 r3 r4 r5
      go_simp
      obtain ⟨V3, hV3⟩ : ∃ V, V = ((((((V2.setCell ⟨ng, 0, none⟩ (.slice p f.path.length c)).setCell ⟨ng, 1, none⟩ (.string f.id)).setCell ⟨ng, 2, none⟩ (.string f.title)).setCell ⟨ng, 3, none⟩ (.string f.link)).setCell ⟨ng, 4, none⟩ (.int .i64 f.upd)).setCell ⟨ng, 5, none⟩ (.slice q f.ents.length d)) := ⟨_, rfl⟩
      have M3_ng : MBlk V3 ng #[.slice p f.path.length c, .string f.id, .string f.title, .string f.link, .int .i64 f.upd, .slice q f.ents.length d] 35 := by rw [hV3]; exact mblk_set6 M2_ng _ _ _ _ _ _
      have M3_nh := (show MBlk V3 nh _ _ by rw [hV3]; exact mq_far6 M2_nh (by first | exact Qnhng | exact fun e => Qngnh e.symm) _ _ _ _ _ _)
      have D3 : Below Wd.heap.size Wd V3 := by rw [hV3]; exact mq_belowset6 D2 Eng _ _ _ _ _ _
      have SD3 := fbox_below D3 SD0
      simp only [← hV3]
      refine hK _ _ SD3 ?_
      clear hK K' hV3 D2 SD2 M2_nh M2_ng r0 t0 r1 t1 r2 t2 r3 t3 r4 t4 r5 t5
      try simp only [Act.put, List.setIfInBounds_toArray, List.set_cons_zero, List.set_cons_succ]
      refine anyL_ready (rs := [5]) (by kernel_rfl) (by simp) ?_
      refine AllL.cons (o := nsC5) rfl (fun K' hK => ?_) AllL.nil
      rw [if_pos (by rfl)]
      unfold nsC5
      have r0 := M3_nh.cell 0
      have t0 := M3_nh.fr 0
      have r1 := M3_nh.cell 1
      have t1 := M3_nh.fr 1
      have r2 := M3_nh.cell 2
      have t2 := M3_nh.fr 2
      have r3 := M3_nh.cell 3
      have t3 := M3_nh.fr 3
      have r4 := M3_nh.cell 4
      have t4 := M3_nh.fr 4
      have r5 := M3_nh.cell 5
      have t5 := M3_nh.fr 5
      simp only [List.getElem?_toArray, List.getElem?_cons_zero, List.getElem?_cons_succ] at r0 r1 r2 r3 r4 r5
      go_simp
      obtain ⟨V4, hV4⟩ : ∃ V, V = ((((((V3.setCell ⟨nh, 0, none⟩ (.slice p f.path.length c)).setCell ⟨nh, 1, none⟩ (.string f.id)).setCell ⟨nh, 2, none⟩ (.string f.title)).setCell ⟨nh, 3, none⟩ (.string f.link)).setCell ⟨nh, 4, none⟩ (.int .i64 f.upd)).setCell ⟨nh, 5, none⟩ (.slice q f.ents.length d)) := ⟨_, rfl⟩
      have M4_nh : MBlk V4 nh #[.slice p f.path.length c, .string f.id, .string f.title, .string f.link, .int .i64 f.upd, .slice q f.ents.length d] 35 := by rw [hV4]; exact mblk_set6 M3_nh _ _ _ _ _ _
      have M4_ng := (show MBlk V4 ng _ _ by rw [hV4]; exact mq_far6 M3_ng (by first | exact Qngnh | exact fun e => Qnhng e.symm) _ _ _ _ _ _)
      have D4 : Below Wd.heap.size Wd V4 := by rw [hV4]; exact mq_belowset6 D3 Enh _ _ _ _ _ _
      have SD4 := fbox_below D4 SD0
      simp only [← hV4]
      refine hK _ _ SD4 ?_
      clear hK K' hV4 D3 SD3 M3_nh M3_ng r0 t0 r1 t1 r2 t2 r3 t3 r4 t4 r5 t5
      try simp only [Act.put, List.setIfInBounds_toArray, List.set_cons_zero, List.set_cons_succ]
      refine anyL_done (by kernel_rfl) ?_ _
      go_wp2
      go_meet
      exact ⟨ng, nh, rfl, rfl, M4_ng, M4_nh, fun e => Qnhng e.symm, Gng, Gnh, SD4, HBD.out.trans (D4.mono HBD.out.size)⟩
  case rest =>
    obtain ⟨ng, nh, rfl, rfl, Mg, Mh, Qgh, Gg, Gh, SE, bE⟩ := hcut
    have Hs1 := Lib.hid hs1
    have Hs2 := Lib.hid hs2
    clear hs1 hs2 e0 e1 e2 e3 e4 e5
    go_upto_region 5 with fail
    go_wp2
    have bd : Below wc.heap.size wc wc.drew := (Below.refl _ _).drew
    have SD0 : (wc.drew.cell? ⟨b, 0, none⟩ = some (.slice p f.path.length c) ∧ wc.drew.cell? ⟨b, 1, none⟩ = some (.string f.id) ∧ wc.drew.cell? ⟨b, 2, none⟩ = some (.string f.title) ∧ wc.drew.cell? ⟨b, 3, none⟩ = some (.string f.link) ∧ wc.drew.cell? ⟨b, 4, none⟩ = some (.int .i64 f.upd) ∧ wc.drew.cell? ⟨b, 5, none⟩ = some (.slice q f.ents.length d)) := fbox_below bd SE
    have HD0 := Lib.hid (show Below w.heap.size w wc.drew from (HB2.out.trans (bE.mono HB2.out.size)).drew)
    have Mg0 := Mg.more bd
    have Mh0 := Mh.more bd
    clear SE Mg Mh bd bE
    have hs1 := Hs1.out
    have hs2 := Hs2.out
    have GBg : w.heap.size ≤ ng := by have := HBW.out; omega
    have GBh : w.heap.size ≤ nh := by have := HBW.out; omega
    have HGg := Lib.hid GBg
    have HGh := Lib.hid GBh
    clear GBg GBh
    refine wp_region_late (S := fun w' => (w'.cell? ⟨b, 0, none⟩ = some (.slice p f.path.length c) ∧ w'.cell? ⟨b, 1, none⟩ = some (.string f.id) ∧ w'.cell? ⟨b, 2, none⟩ = some (.string f.title) ∧ w'.cell? ⟨b, 3, none⟩ = some (.string f.link) ∧ w'.cell? ⟨b, 4, none⟩ = some (.int .i64 f.upd) ∧ w'.cell? ⟨b, 5, none⟩ = some (.slice q f.ents.length d))) (D := []) (by kernel_rfl) ?_
    generalize wc.drew = Wd at *
    refine anyL_take (i := 0) (oi := { dst := some 25, op := Go.Op.fieldAddr 35 (Go.Operand.tmp 2) 5, type := 0, pos := "law.go:106", after := #[], guard := none }) (v := ?_) rfl (by decide) (by kernel_rfl) (by kernel_rfl) (by kernel_rfl) (by kernel_rfl) (fun _ _ _ h => h) (Or.inl ⟨by rfl, ?_⟩) SD0 ?_
    rotate_left
    · intro wz hSz
      skip
      go_simp
      (try with_reducible rfl)
    try simp only [Act.put, List.setIfInBounds_toArray, List.set_cons_zero, List.set_cons_succ]
    refine anyL_take (i := 1) (oi := { dst := some 26, op := Go.Op.load 33 (Go.Operand.tmp 25), type := 33, pos := "law.go:106", after := #[{ on := 0, ground := Go.Ground.data }], guard := none }) (v := ?_) rfl (by decide) (by kernel_rfl) (by kernel_rfl) (by kernel_rfl) (by kernel_rfl) (fun _ _ _ h => h) (Or.inl ⟨by rfl, ?_⟩) SD0 ?_
    rotate_left
    · intro wz hSz
      obtain ⟨z0, z1, z2, z3, z4, z5⟩ := hSz
      go_simp
      (try with_reducible rfl)
    try simp only [Act.put, List.setIfInBounds_toArray, List.set_cons_zero, List.set_cons_succ]
    refine anyL_take (i := 2) (oi := { dst := some 27, op := Go.Op.move (Go.Operand.tmp 5), type := 3, pos := "law.go:106", after := #[], guard := none }) (v := ?_) rfl (by decide) (by kernel_rfl) (by kernel_rfl) (by kernel_rfl) (by kernel_rfl) (fun _ _ _ h => h) (Or.inl ⟨by rfl, ?_⟩) SD0 ?_
    rotate_left
    · intro wz hSz
      skip
      go_simp
      (try with_reducible rfl)
    try simp only [Act.put, List.setIfInBounds_toArray, List.set_cons_zero, List.set_cons_succ]
    refine anyL_take (i := 3) (oi := { dst := some 28, op := Go.Op.move (Go.Operand.tmp 5), type := 3, pos := "law.go:106", after := #[], guard := none }) (v := ?_) rfl (by decide) (by kernel_rfl) (by kernel_rfl) (by kernel_rfl) (by kernel_rfl) (fun _ _ _ h => h) (Or.inl ⟨by rfl, ?_⟩) SD0 ?_
    rotate_left
    · intro wz hSz
      skip
      go_simp
      (try with_reducible rfl)
    try simp only [Act.put, List.setIfInBounds_toArray, List.set_cons_zero, List.set_cons_succ]
    refine anyL_take (i := 4) (oi := { dst := some 29, op := Go.Op.slice 33 (Go.Operand.tmp 26) none (some (Go.Operand.tmp 27)) (some (Go.Operand.tmp 28)), type := 33, pos := "law.go:106", after := #[{ on := 1, ground := Go.Ground.data }, { on := 2, ground := Go.Ground.data }, { on := 3, ground := Go.Ground.data }], guard := none }) (v := ?_) rfl (by decide) (by kernel_rfl) (by kernel_rfl) (by kernel_rfl) (by kernel_rfl) (fun _ _ _ h => h) (Or.inl ⟨by rfl, ?_⟩) SD0 ?_
    rotate_left
    · intro wz hSz
      skip
      go_simp
      (try with_reducible rfl)
    try simp only [Act.put, List.setIfInBounds_toArray, List.set_cons_zero, List.set_cons_succ]
    refine anyL_take (i := 5) (oi := { dst := some 30, op := Go.Op.fieldAddr 35 (Go.Operand.tmp 2) 5, type := 0, pos := "law.go:106", after := #[], guard := none }) (v := ?_) rfl (by decide) (by kernel_rfl) (by kernel_rfl) (by kernel_rfl) (by kernel_rfl) (fun _ _ _ h => h) (Or.inl ⟨by rfl, ?_⟩) SD0 ?_
    rotate_left
    · intro wz hSz
      skip
      go_simp
      (try with_reducible rfl)
    try simp only [Act.put, List.setIfInBounds_toArray, List.set_cons_zero, List.set_cons_succ]
    refine anyL_take (i := 6) (oi := { dst := some 31, op := Go.Op.load 33 (Go.Operand.tmp 30), type := 33, pos := "law.go:106", after := #[{ on := 5, ground := Go.Ground.data }], guard := none }) (v := ?_) rfl (by decide) (by kernel_rfl) (by kernel_rfl) (by kernel_rfl) (by kernel_rfl) (fun _ _ _ h => h) (Or.inl ⟨by rfl, ?_⟩) SD0 ?_
    rotate_left
    · intro wz hSz
      obtain ⟨z0, z1, z2, z3, z4, z5⟩ := hSz
      go_simp
      (try with_reducible rfl)
    try simp only [Act.put, List.setIfInBounds_toArray, List.set_cons_zero, List.set_cons_succ]
    refine anyL_take (i := 7) (oi := { dst := some 32, op := Go.Op.move (Go.Operand.tmp 5), type := 3, pos := "law.go:106", after := #[], guard := none }) (v := ?_) rfl (by decide) (by kernel_rfl) (by kernel_rfl) (by kernel_rfl) (by kernel_rfl) (fun _ _ _ h => h) (Or.inl ⟨by rfl, ?_⟩) SD0 ?_
    rotate_left
    · intro wz hSz
      skip
      go_simp
      (try with_reducible rfl)
    try simp only [Act.put, List.setIfInBounds_toArray, List.set_cons_zero, List.set_cons_succ]
    refine anyL_take (i := 8) (oi := { dst := some 33, op := Go.Op.slice 33 (Go.Operand.tmp 31) (some (Go.Operand.tmp 32)) none none, type := 33, pos := "law.go:106", after := #[{ on := 6, ground := Go.Ground.data }, { on := 7, ground := Go.Ground.data }], guard := none }) (v := ?_) rfl (by decide) (by kernel_rfl) (by kernel_rfl) (by kernel_rfl) (by kernel_rfl) (fun _ _ _ h => h) (Or.inl ⟨by rfl, ?_⟩) SD0 ?_
    rotate_left
    · intro wz hSz
      skip
      go_simp
      (try with_reducible rfl)
    try simp only [Act.put, List.setIfInBounds_toArray, List.set_cons_zero, List.set_cons_succ]
    refine anyL_take (i := 9) (oi := { dst := some 34, op := Go.Op.fieldAddr 35 (Go.Operand.tmp 6) 5, type := 0, pos := "law.go:106", after := #[{ on := 0, ground := Go.Ground.phase }, { on := 1, ground := Go.Ground.phase }, { on := 2, ground := Go.Ground.phase }, { on := 3, ground := Go.Ground.phase }, { on := 4, ground := Go.Ground.phase }, { on := 5, ground := Go.Ground.textOnly Go.Departure.lateStores }, { on := 6, ground := Go.Ground.textOnly Go.Departure.lateStores }, { on := 7, ground := Go.Ground.textOnly Go.Departure.lateStores }, { on := 8, ground := Go.Ground.textOnly Go.Departure.lateStoresUnsure }], guard := none }) (v := ?_) rfl (by decide) (by kernel_rfl) (by kernel_rfl) (by kernel_rfl) (by kernel_rfl) (fun _ _ _ h => h) (Or.inl ⟨by rfl, ?_⟩) SD0 ?_
    rotate_left
    · intro wz hSz
      skip
      go_simp
      (try with_reducible rfl)
    try simp only [Act.put, List.setIfInBounds_toArray, List.set_cons_zero, List.set_cons_succ]
    refine anyL_ready (rs := [10]) (by kernel_rfl) (by simp) ?_
    refine AllL.cons (o := { dst := none, op := Go.Op.store 33 (Go.Operand.tmp 34) (Go.Operand.tmp 29), type := 0, pos := "law.go:106", after := #[{ on := 9, ground := Go.Ground.data }, { on := 4, ground := Go.Ground.data }, { on := 0, ground := Go.Ground.phase }, { on := 1, ground := Go.Ground.phase }, { on := 2, ground := Go.Ground.phase }, { on := 3, ground := Go.Ground.phase }, { on := 4, ground := Go.Ground.phase }, { on := 5, ground := Go.Ground.textOnly Go.Departure.lateStores }, { on := 6, ground := Go.Ground.textOnly Go.Departure.lateStores }, { on := 7, ground := Go.Ground.textOnly Go.Departure.lateStores }, { on := 8, ground := Go.Ground.textOnly Go.Departure.lateStoresUnsure }], guard := none }) rfl (fun K' hK => ?_) AllL.nil
    rw [if_pos (by rfl)]
    go_simp
    have r5 := Mg0.cell 5
    have t5 := Mg0.fr 5
    simp only [List.getElem?_toArray, List.getElem?_cons_zero, List.getElem?_cons_succ] at r5
    go_simp
    obtain ⟨V1, hV1⟩ : ∃ V, V = Wd.setCell ⟨ng, 5, none⟩ (.slice q n n) := ⟨_, rfl⟩
    have Mg01 : MBlk V1 ng #[.slice p f.path.length c, .string f.id, .string f.title, .string f.link, .int .i64 f.upd, .slice q n n] 35 := by rw [hV1]; exact ns_set5 Mg0 _
    have Mh01 := (show MBlk V1 nh _ _ by rw [hV1]; exact mq_far Mh0 (by first | exact Qgh | exact fun e => Qgh e.symm) _)
    have bb : Below (b + 1) Wd V1 := by rw [hV1]; exact (Below.refl _ _).setCell (p := ⟨ng, 5, none⟩) (show b + 1 ≤ ng by omega) _
    have SV1 := fbox_under bb (Nat.lt_succ_self b) SD0
    have HDV1 := Lib.hid (show Below w.heap.size w V1 by rw [hV1]; exact HD0.out.setCell (p := ⟨ng, 5, none⟩) HGg.out _)
    simp only [← hV1]
    clear r5 t5 bb Mg0 Mh0 hV1 HD0
    refine hK _ _ SV1 ?_
    clear hK K'
    try simp only [Act.put, List.setIfInBounds_toArray, List.set_cons_zero, List.set_cons_succ]
    refine anyL_take (i := 11) (oi := { dst := some 35, op := Go.Op.fieldAddr 35 (Go.Operand.tmp 7) 5, type := 0, pos := "law.go:106", after := #[{ on := 0, ground := Go.Ground.phase }, { on := 1, ground := Go.Ground.phase }, { on := 2, ground := Go.Ground.phase }, { on := 3, ground := Go.Ground.phase }, { on := 4, ground := Go.Ground.phase }, { on := 5, ground := Go.Ground.phase }, { on := 6, ground := Go.Ground.phase }, { on := 7, ground := Go.Ground.phase }, { on := 8, ground := Go.Ground.phase }, { on := 9, ground := Go.Ground.phase }, { on := 10, ground := Go.Ground.phase }], guard := none }) (v := ?_) rfl (by decide) (by kernel_rfl) (by kernel_rfl) (by kernel_rfl) (by kernel_rfl) (fun _ _ _ h => h) (Or.inl ⟨by rfl, ?_⟩) SV1 ?_
    rotate_left
    · intro wz hSz
      skip
      go_simp
      (try with_reducible rfl)
    try simp only [Act.put, List.setIfInBounds_toArray, List.set_cons_zero, List.set_cons_succ]
    refine anyL_ready (rs := [12]) (by kernel_rfl) (by simp) ?_
    refine AllL.cons (o := { dst := none, op := Go.Op.store 33 (Go.Operand.tmp 35) (Go.Operand.tmp 33), type := 0, pos := "law.go:106", after := #[{ on := 11, ground := Go.Ground.data }, { on := 8, ground := Go.Ground.data }, { on := 10, ground := Go.Ground.chain }, { on := 0, ground := Go.Ground.phase }, { on := 1, ground := Go.Ground.phase }, { on := 2, ground := Go.Ground.phase }, { on := 3, ground := Go.Ground.phase }, { on := 4, ground := Go.Ground.phase }, { on := 5, ground := Go.Ground.phase }, { on := 6, ground := Go.Ground.phase }, { on := 7, ground := Go.Ground.phase }, { on := 8, ground := Go.Ground.phase }, { on := 9, ground := Go.Ground.phase }, { on := 10, ground := Go.Ground.phase }], guard := none }) rfl (fun K' hK => ?_) AllL.nil
    rw [if_pos (by rfl)]
    go_simp
    have r5 := Mh01.cell 5
    have t5 := Mh01.fr 5
    simp only [List.getElem?_toArray, List.getElem?_cons_zero, List.getElem?_cons_succ] at r5
    go_simp
    obtain ⟨V2, hV2⟩ : ∃ V, V = V1.setCell ⟨nh, 5, none⟩ (.slice q2 (f.ents.length - n) (d - n)) := ⟨_, rfl⟩
    have Mh011 : MBlk V2 nh #[.slice p f.path.length c, .string f.id, .string f.title, .string f.link, .int .i64 f.upd, .slice q2 (f.ents.length - n) (d - n)] 35 := by rw [hV2]; exact ns_set5 Mh01 _
    have Mg011 := (show MBlk V2 ng _ _ by rw [hV2]; exact mq_far Mg01 (by first | exact Qgh | exact fun e => Qgh e.symm) _)
    have bb : Below (b + 1) V1 V2 := by rw [hV2]; exact (Below.refl _ _).setCell (p := ⟨nh, 5, none⟩) (show b + 1 ≤ nh by omega) _
    have SV2 := fbox_under bb (Nat.lt_succ_self b) SV1
    have HDV2 := Lib.hid (show Below w.heap.size w V2 by rw [hV2]; exact HDV1.out.setCell (p := ⟨nh, 5, none⟩) HGh.out _)
    simp only [← hV2]
    clear r5 t5 bb Mh01 Mg01 hV2 HDV1
    refine hK _ _ SV2 ?_
    clear hK K'
    try simp only [Act.put, List.setIfInBounds_toArray, List.set_cons_zero, List.set_cons_succ]
    refine anyL_done (by kernel_rfl) ?_ _
    clear SD0 SV1 hs1 hs2
    obtain ⟨e0, e1, e2, e3, e4, e5⟩ := SV2
    have hfin : FIn f := HO.out.fin HS.out
    have hfg : FIn { f with ents := f.ents.take n } := fin_part hfin (fun e he => List.mem_of_mem_take he) (by rw [List.length_take]; omega)
    have hfh : FIn { f with ents := f.ents.drop n } := fin_part hfin (fun e he => List.mem_of_mem_drop he) (by rw [List.length_drop]; omega)
    have hel := HS.out.elen
    have htl : (f.ents.take n).length = n := by rw [List.length_take]; have := HNL.out; omega
    have hdl : (f.ents.drop n).length = f.ents.length - n := List.length_drop
    have ht1 : totE [f] ≤ 1000000 := by rw [totE_cons]; show _ + 0 ≤ _; omega
    have ht2 : totE [{ f with ents := f.ents.take n }, { f with ents := f.ents.drop n }] ≤ 1000000 := by
      rw [totE_cons, totE_cons]
      show (f.ents.take n).length + ((f.ents.drop n).length + 0) ≤ _
      have := HNL.out
      omega
    have hsp := split_ok f (f.ents.take n) (f.ents.drop n) (List.take_append_drop n f.ents).symm
    have hLL : archL [{ f with ents := f.ents.take n }, { f with ents := f.ents.drop n }] = archL [f] := by
      unfold archL
      rw [← hsp.1]
      by_cases hx : archX [f] = 0
      · rw [if_pos hx, if_pos hx, hsp.2 hx]
      · rw [if_neg hx, if_neg hx]
    have hl1 : ∀ g ∈ [f], FIn g := fun g hg => by rw [List.mem_singleton.1 hg]; exact hfin
    have hl2 : ∀ g ∈ [{ f with ents := f.ents.take n }, { f with ents := f.ents.drop n }], FIn g := fun g hg => by
      rcases List.mem_cons.1 hg with rfl | hg
      · exact hfg
      · rw [List.mem_singleton.1 hg]; exact hfh
    obtain ⟨hsz, hsn⟩ := archL_len hl1 ht1 (by show 1 ≤ _; decide)
    have kA := Lib.hid (fun p' wx (hb : Below w.heap.size w wx) (hF : FeedsAt wx p' [f]) => nz_ArchL [f] p' 1 wx hF hl1 (by show 1 ≤ _; decide) ht1 (TabW_below HT.out hb))
    have kB := fun p' wx (hb : Below w.heap.size w wx) (hF : FeedsAt wx p' [{ f with ents := f.ents.take n }, { f with ents := f.ents.drop n }]) => nz_ArchL [{ f with ents := f.ents.take n }, { f with ents := f.ents.drop n }] p' 2 wx hF hl2 (by show 2 ≤ _; decide) ht2 (TabW_below HT.out hb)
    rw [hLL, ← hsp.1] at kB
    have KB := Lib.hid kB
    clear kB hLL hsp ht1 ht2 hl1 hl2 hfg hfh hfin hel
    obtain ⟨L, hL⟩ : ∃ L, archL [f] = L := ⟨_, rfl⟩
    obtain ⟨X, hX⟩ : ∃ X, archX [f] = X := ⟨_, rfl⟩
    rw [hL] at hsz hsn
    simp only [hL, hX] at kA KB
    clear hL hX
    obtain ⟨W3, hW3⟩ : ∃ W3, W3 = V2.alloc (.cells #[.slice p f.path.length c, .string f.id, .string f.title, .string f.link, .int .i64 f.upd, .slice q f.ents.length d] 35) := ⟨_, rfl⟩
    have b3 : Below V2.heap.size V2 W3 := by rw [hW3]; exact (Below.refl _ _).alloc (Nat.le_refl _) _
    have hB3 := HDV2.out.trans (b3.mono HDV2.out.size)
    have hF3 : FeedsAt W3 (some ⟨V2.heap.size, 0, none⟩) [f] := by rw [hW3]; exact feed_one (HP.out.below HDV2.out) (HQ.out.below HDV2.out)
    have cA := kA.out _ W3 hB3 hF3
    have Mg3 := Mg011.more b3
    have Mh3 := Mh011.more b3
    have HB3 := Lib.hid hB3
    have HSZL := Lib.hid hsz
    have HSNL := Lib.hid hsn
    have HTL := Lib.hid htl
    have HDL := Lib.hid hdl
    have HM3 := Lib.hid (And.intro Mg3 Mh3)
    clear b3 hB3 hF3 Mg3 Mh3 Mg011 Mh011 hsz hsn htl hdl kA
    go_wp2_with fail
    simp only [← hW3]
    refine cA.mono ?_
    rintro e4 w4 ⟨p4, c4, rfl, hF4, b4⟩
    clear cA hW3 e0 e1 e2 e3 e4 e5
    obtain ⟨W5, hW5⟩ : ∃ W5, W5 = w4.alloc (.cells #[.slice p4 L.length c4] 46) := ⟨_, rfl⟩
    obtain ⟨na, hna⟩ : ∃ n, n = w4.heap.size := ⟨_, rfl⟩
    have b5 : Below w4.heap.size w4 W5 := by rw [hW5]; exact (Below.refl _ _).alloc (Nat.le_refl _) _
    have b45 := b4.trans (b5.mono b4.size)
    have hB5 := HB3.out.trans (b45.mono HB3.out.size)
    have hF5 := hF4.below b5
    have a0 : W5.cell? ⟨na, 0, none⟩ = some (.slice p4 L.length c4) := by rw [hW5, hna]; exact cell_of_row _ _ 0 _ _ _ (heap_alloc_new w4 _)
    have Mg5 := HM3.out.1.more b45
    have Mh5 := HM3.out.2.more b45
    have HB5 := Lib.hid hB5
    have HF5 := Lib.hid hF5
    have HNA := Lib.hid hna
    clear b4 b5 b45 hB5 hF4 hF5 hna HM3 HB3
    go_upto_region 7 with fail
    simp only [← hW5, ← HNA.out]
    clear hW5
    have g0 := Mg5.cell 0
    have h0 := Mh5.cell 0
    have g1 := Mg5.cell 1
    have h1 := Mh5.cell 1
    have g2 := Mg5.cell 2
    have h2 := Mh5.cell 2
    have g3 := Mg5.cell 3
    have h3 := Mh5.cell 3
    have g4 := Mg5.cell 4
    have h4 := Mh5.cell 4
    have g5 := Mg5.cell 5
    have h5 := Mh5.cell 5
    simp only [List.getElem?_toArray, List.getElem?_cons_zero, List.getElem?_cons_succ] at g0 h0 g1 h1 g2 h2 g3 h3 g4 h4 g5 h5
    obtain ⟨W6, hW6⟩ : ∃ W6, W6 = W5.alloc (.cells #[.slice p f.path.length c, .string f.id, .string f.title, .string f.link, .int .i64 f.upd, .slice q n n, .slice p f.path.length c, .string f.id, .string f.title, .string f.link, .int .i64 f.upd, .slice q2 (f.ents.length - n) (d - n)] 35) := ⟨_, rfl⟩
    have b6 : Below W5.heap.size W5 W6 := by rw [hW6]; exact (Below.refl _ _).alloc (Nat.le_refl _) _
    have hB6 := HB5.out.trans (b6.mono HB5.out.size)
    have hF6 : FeedsAt W6 (some ⟨W5.heap.size, 0, none⟩) [{ f with ents := f.ents.take n }, { f with ents := f.ents.drop n }] := by
      have h := feed_two (w := W5) (f := { f with ents := f.ents.take n }) (g := { f with ents := f.ents.drop n }) (c1 := c) (d1 := n) (c2 := c) (d2 := d - n) (HP.out.below HB5.out) (HE1.out.below HB5.out) (HP.out.below HB5.out) (HE2.out.below HB5.out)
      dsimp only at h
      rw [HTL.out, HDL.out] at h
      rw [hW6]
      exact h
    have cB := KB.out _ W6 hB6 hF6
    rw [show ([{ f with ents := f.ents.take n }, { f with ents := f.ents.drop n }] : List FeedD).length = 2 from rfl] at cB
    have a6 := mcell b6 a0
    have HB6 := Lib.hid hB6
    have HF6 := Lib.hid (HF5.out.below b6)
    clear b6 hB6 hF6 KB Mg5 Mh5 HF5 HB5 a0
    go_wp2_with fail
    simp only [← hW6]
    refine cB.mono ?_
    rintro e7 w7 ⟨p7, c7, rfl, hF7, b7⟩
    clear cB hW6
    obtain ⟨W8, hW8⟩ : ∃ W8, W8 = w7.alloc (.cells #[.slice p7 L.length c7] 46) := ⟨_, rfl⟩
    obtain ⟨nb, hnb⟩ : ∃ n, n = w7.heap.size := ⟨_, rfl⟩
    have b8 : Below w7.heap.size w7 W8 := by rw [hW8]; exact (Below.refl _ _).alloc (Nat.le_refl _) _
    have b78 := b7.trans (b8.mono b7.size)
    have hB8 := HB6.out.trans (b78.mono HB6.out.size)
    have g8 := mcell b78 a6
    have d8 : W8.cell? ⟨nb, 0, none⟩ = some (.slice p7 L.length c7) := by rw [hW8, hnb]; exact cell_of_row _ _ 0 _ _ _ (heap_alloc_new w7 _)
    have HFA := Lib.hid (HF6.out.below b78)
    have HFB := Lib.hid (hF7.below b8)
    have cV := nz_alive W8 (TabW_below HT.out hB8)
    have HB8 := Lib.hid hB8
    have HNB := Lib.hid hnb
    clear b7 b8 b78 hB8 hF7 hnb HF6 HB6 a6
    go_upto_region 8 with fail
    simp only [← hW8, ← HNB.out]
    clear hW8
    go_wp2_with fail
    refine cV.mono ?_
    rintro e9 w9 ⟨rfl, b9⟩
    have hB9 := HB8.out.trans (b9.mono HB8.out.size)
    have cQ := mref_EqualA L L p4 p7 c4 c7 w9 (HFA.out.below b9) (HFB.out.below b9) HSZL.out (fun g hg => (HSZL.out g hg).1) HSNL.out
    rw [(eqA_iff L L).2 rfl] at cQ
    have g9 := mcell b9 g8
    have d9 := mcell b9 d8
    have HB9 := Lib.hid hB9
    clear b9 hB9 cV g8 d8 HFA HFB
    go_wp2_with fail
    refine cQ.mono ?_
    rintro ee w10 ⟨rfl, b10⟩
    have HB10 := Lib.hid (HB9.out.trans (b10.mono HB9.out.size))
    clear b10 cQ
    go_wp2
    go_ret
    exact ⟨rfl, HB10.out⟩
theorem walk_NSplits (f : FeedD) (p : Option Addr) (c : Nat) (q : Option Addr) (d : Nat) (k : Int) (w : World) (hp : NamAt w p f.path) (hq : EntsAt w q f.ents) (hO : FOpn f) (hd : f.ents.length ≤ d) (hk0 : 0 ≤ k) (hk1 : k ≤ 255) (hT : TabW w) :
    Calls Tryz.prog 8 #[.agg #[.slice p f.path.length c, .string f.id, .string f.title, .string f.link, .int .i64 f.upd, .slice q f.ents.length d], .int .u8 k] w fun e' w' => e' = .returned (.bool true) ∧ Below w.heap.size w w' := by
  cases hx : lgN [f] with
  | true => exact walk_NSplitsA f p c q d k w hp hq hO hT hx
  | false => exact walk_NSplitsB f p c q d k w hp hq hO hT hx hd hk0 hk1
end Go.Proofs.YtbfalppeifkjdaaGreatDoor
end
