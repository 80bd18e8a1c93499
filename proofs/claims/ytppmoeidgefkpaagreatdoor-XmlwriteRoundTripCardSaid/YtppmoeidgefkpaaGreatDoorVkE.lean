/- Packed from the texts BuiE BuiF BuiG BuiH BuiI BuiJ BuiK BuiL BuiM. -/
import Derived.Test.YtppmoeidgefkpaaGreatDoorVTextE
import Derived.Test.YtppmoeidgefkpaaGreatDoorVkD
import Derived.BigRegion
import Derived.Deep.RegionWith
section
namespace Go.Proofs.YtppmoeidgefkpaaGreatDoor
open Go.RowKit
theorem rowF_froze {w : World} {B g n cap : Nat} {e : TypeId} {xs : List Value} (h : w.ownsRowF B e 1 (.slice (some ⟨g, 0, none⟩) n cap) n xs) : (w.freeze ⟨g, 0, none⟩ n).ownsRowF B e 1 (.slice (some ⟨g, 0, none⟩) n cap) n xs := by
  obtain ⟨hl, h2⟩ := h
  refine ⟨hl, ?_⟩
  rcases h2 with ⟨hv, _⟩ | ⟨g', cap', cur, fz, hv, hbg, hg, hfz, rest⟩
  · cases hv
  · cases hv
    right
    unfold World.freeze
    split
    · exact ⟨g, cap, cur, fz, rfl, hbg, hg, hfz, rest⟩
    · obtain ⟨lo, hi⟩ := fz
      simp only at hfz
      refine ⟨g, cap, cur, (if lo == hi then (0, 0 + n) else (min lo 0, max hi (0 + n))), rfl, hbg, ?_, ?_, rest⟩
      · simp [Array.getElem?_modify, hg]
      · split
        · simp
        · simp only
          omega
theorem freeze_ne (w : World) (g n k : Nat) (h : k ≠ g) : (w.freeze ⟨g, 0, none⟩ n).heap[k]? = w.heap[k]? := by
  unfold World.freeze
  split
  · rfl
  · simp [Array.getElem?_modify, Ne.symm h]
theorem chg_freeze (pb : Nat) (w : World) (g n cap : Nat) : Chg pb (.slice (some ⟨g, 0, none⟩) n cap) (.slice (some ⟨g, 0, none⟩) n cap) w (w.freeze ⟨g, 0, none⟩ n) := by
  have hb : Below g w (w.freeze ⟨g, 0, none⟩ n) := Lib.below_freeze (Below.refl g w) (p := ⟨g, 0, none⟩) (Nat.le_refl _) n
  exact ⟨hb.os, hb.tape, hb.output, hb.size, fun k _ _ h2 => freeze_ne w g n k (fun e => h2 (by rw [e]; rfl)), fun k hk => .inl hk⟩
theorem drew_freeze (w : World) (p : Addr) (n : Nat) : w.drew.freeze p n = (w.freeze p n).drewN 1 := by
  unfold World.freeze
  split <;> rfl
theorem bf_t98 : Tryz.prog.cellsOf 5 = 1 := by kernel_rfl
set_option maxRecDepth 100000 in
set_option maxHeartbeats 2000000 in
theorem bf_String (pb g cap : Nat) (l : List UInt8) (B : Nat) (w : World) (hp : w.cell? ⟨pb, 9, none⟩ = some (.slice (some ⟨g, 0, none⟩) l.length cap)) (hv : w.ownsRowF B 5 1 (.slice (some ⟨g, 0, none⟩) l.length cap) l.length (Lib.byteCells l)) (h0 : l ≠ []) :
    Calls Tryz.prog 24 #[.pointer (some ⟨pb, 8, none⟩)] w fun e w' => e = .returned (.string (ofBytes l)) ∧ ∃ k, w' = (w.freeze ⟨g, 0, none⟩ l.length).drewN k := by
  have hl0 : l.length ≠ 0 := by simpa using h0
  obtain ⟨cur, fz, hg, hfz, hnc, hcm, hcs, htake⟩ : ∃ cur fz, w.heap[g]? = some (.cells cur 5 fz) ∧ fz.2 ≤ l.length * 1 ∧ l.length ≤ cap ∧ cap ≤ maxLen ∧ cur.size = cap * 1 ∧ cur.toList.take (l.length * 1) = Lib.byteCells l := by
    rcases hv.2 with ⟨hh, _⟩ | ⟨g', cap', cur, fz, hh, _, r⟩
    · cases hh
    · cases hh
      exact ⟨cur, fz, r⟩
  have c1 : w.drew.cell? ⟨pb, 9, none⟩ = some (.slice (some ⟨g, 0, none⟩) l.length cap) := hp
  have hSD : (Builtin.unsafeSliceData_ #[44] 80 #[.slice (some ⟨g, 0, none⟩) l.length cap]).run Tryz.prog w.drew = .ok (.pointer (some ⟨g, 0, none⟩)) w.drew :=
    Lib.run_unsafeSliceData_row _ _ _ _ _ _ (by omega)
  have hUS : (Builtin.unsafeString_ #[80, 3] 9 #[.pointer (some ⟨g, 0, none⟩), .int .i64 l.length]).run Tryz.prog w.drew = .ok (.string ⟨l.toArray⟩) (w.drew.freeze ⟨g, 0, none⟩ l.length) := by
    refine Lib.run_unsafeString_row w.drew 80 3 9 5 Tryz.underlying80 bf_t98 g cur.size (by have hg' : w.drew.heap[g]? = some (.cells cur 5 fz) := hg; simp [World.shape?, hg']) l h0 (by omega) (by unfold maxLen at hcm; omega) ?_
    intro j x hx
    exact hv.cells (g := g) rfl j (.int .u8 x.toNat) (by simp [Lib.byteCells, hx])
  clear hv hg htake
  go_enter Tryz.func24, Tryz.ntmps24
  go_wp2
  go_region
  all_goals
    go_wp2
    go_ret
    exact ⟨rfl, 1, drew_freeze w _ _⟩
set_option maxRecDepth 100000 in
theorem bf_Reset (pb : Nat) (c0 c1 c2 c3 c4 c5 c6 vo p vd d : Value) (w : World) (hb : Blk w pb #[c0, c1, c2, c3, c4, c5, c6, vo, p, vd, d] 89) :
    Calls Tryz.prog 94 #[.pointer (some ⟨pb, 8, none⟩)] w fun e w' => e = .returned (.tuple #[]) ∧ Blk w' pb #[c0, c1, c2, c3, c4, c5, c6, vo, .pointer none, .slice none 0 0, d] 89 ∧ Keep pb w w' := by
  have q8 := hb.cell 8
  have q9 := hb.cell 9
  have f8 := hb.fr 8
  have f9 := hb.fr 9
  have HB := Lib.hid hb
  clear hb
  go_enter Tryz.func94, Tryz.ntmps94
  go_wp2
  go_end0
  exact ⟨rfl, (HB.out.set 8 _).set 9 _, ((Keep.refl pb w).set 8 _).set 9 _⟩
end Go.Proofs.YtppmoeidgefkpaaGreatDoor
end
section
namespace Go.Proofs.YtppmoeidgefkpaaGreatDoor
open Go.RowKit
variable {X : List Nat}
def Bui (X : List Nat) (w : World) (B pb : Nat) (m : Mac) (ads : List (Nat × Nat)) : Prop := ∃ v0 vo vd p xs, BI X w B pb m ads v0 vo vd p xs
theorem BI.froze {w : World} {B pb g cap : Nat} {m : Mac} {ads : List (Nat × Nat)} {v0 vo p : Value} {xs : List Value} (h : BI X w B pb m ads v0 vo (.slice (some ⟨g, 0, none⟩) m.data.length cap) p xs) : BI X (w.freeze ⟨g, 0, none⟩ m.data.length) B pb m ads v0 vo (.slice (some ⟨g, 0, none⟩) m.data.length cap) p xs := by
  obtain ⟨c0, c1, c2, c3, c4, c5, c6, hp⟩ := h.bp
  have hgp : pb ≠ g := fun e => h.apart.2.2.1 (by rw [e]; rfl)
  exact h.chars hp (chg_freeze pb w g _ cap) ((freeze_ne w g _ pb hgp).trans hp.blk) hp.addr (rowF_froze hp.chars)
theorem BI.reset {w w' : World} {B pb : Nat} {m : Mac} {ads : List (Nat × Nat)} {v0 vo vd p : Value} {xs : List Value} (h : BI X w B pb m ads v0 vo vd p xs) {c0 c1 c2 c3 c4 c5 c6 : Value} (hp : BP w B pb ads m.data m.dat vo vd p c0 c1 c2 c3 c4 c5 c6) (hb : Blk w' pb #[c0, c1, c2, c3, c4, c5, c6, vo, .pointer none, .slice none 0 0, .int .i64 m.dat] 89) (hk : Keep pb w w') : BI X w' B pb { m with data := [] } ads v0 vo (.slice none 0 0) (.pointer none) xs :=
  h.chars hp ⟨hk.os, hk.tape, hk.output, hk.size, fun k h1 h2 _ => hk.block k h1 h2, fun k e => by cases e⟩ hb (.inl rfl) ⟨by simp [Lib.byteCells], .inl ⟨rfl, rfl⟩⟩
theorem charK_is (w : World) (l : List UInt8) (a : Int) : NodeIs w (charK l a) (.agg #[.int .i64 1, .string ⟨#[]⟩, .string ⟨#[]⟩, .slice none 0 0, .slice none 0 0, .string (ofBytes l), .int .i64 a]) := by
  rw [charK, NodeIs]
  exact ⟨none, 0, none, 0, rfl, fun i h => absurd h (Nat.not_lt_zero _), by rw [KidsAt]; trivial⟩
theorem BI.c10 {w : World} {B pb : Nat} {m : Mac} {ads : List (Nat × Nat)} {v0 vo vd p : Value} {xs : List Value} (h : BI X w B pb m ads v0 vo vd p xs) : w.cell? ⟨pb, 10, none⟩ = some (.int .i64 m.dat) ∧ w.cell? ⟨pb, 9, none⟩ = some vd ∧ w.cell? ⟨pb, 7, none⟩ = some vo ∧ w.frozen? ⟨pb, 10, none⟩ = false ∧ w.frozen? ⟨pb, 7, none⟩ = false := by
  obtain ⟨c0, c1, c2, c3, c4, c5, c6, hp⟩ := h.bp
  exact ⟨hp.blk.cell 10, hp.blk.cell 9, hp.blk.cell 7, hp.blk.fr 10, hp.blk.fr 7⟩
theorem Keep.belowB {pb B : Nat} {w w' : World} (h : Keep pb w w') (hB : B ≤ pb) (hz : B ≤ w.heap.size) : Below B w w' := ⟨h.os, h.tape, h.output, h.size, fun k hk => h.block k (by omega) (by omega)⟩
set_option maxRecDepth 100000 in
set_option maxHeartbeats 4000000 in
theorem bo_endData (B pb : Nat) (m : Mac) (a : Nat × Nat) (ads : List (Nat × Nat)) (v0 vo vd p : Value) (xs : List Value) (w : World) (hI : BI X w B pb m (a :: ads) v0 vo vd p xs) (hn : m.top.kids.length ≤ 1000000000) (ha : ads.length ≤ 1000000) (hB : B ≤ w.heap.size) :
    Calls Tryz.prog 67 #[.pointer (some ⟨pb, 0, none⟩)] w fun e w' => e = .returned (.tuple #[]) ∧ (∃ v0' vo' vd' p' xs', BI X w' B pb (flushM m) (a :: ads) v0' vo' vd' p' xs' ∧ Goes w (live (a :: ads) v0 vo vd) w' (live (a :: ads) v0' vo' vd')) ∧ Below B w w' := by
  obtain ⟨c10, c9, _, _⟩ := hI.c10
  obtain ⟨c0, c1, c2, c3, c4, c5, c6, hp⟩ := hI.bp
  obtain ⟨A, cap, rfl⟩ := rowF_val hp.chars
  have hlow := hp.low
  have cL := bf_Len pb m.data.length A cap w c9
  by_cases hd : m.data = []
  · have hfl : flushM m = m := by unfold flushM; rw [if_pos hd]
    rw [hfl]
    have h0 : ¬ (0 : Int) < (m.data.length : Int) := by rw [hd]; simp
    have HI := Lib.hid hI
    clear hI hp hd hfl
    go_enter Tryz.func67, Tryz.ntmps67
    go_wp2_with fail
    refine cL.mono ?_
    rintro e w1 ⟨rfl, rfl⟩
    go_wp2
    go_end0
    exact ⟨rfl, ⟨_, _, _, _, _, HI.out, Goes.refl _ _⟩, Below.refl _ _⟩
  · have hfl : flushM m = { m with top := addKid (charK m.data m.dat) m.top, data := [] } := by unfold flushM; rw [if_neg hd]
    rw [hfl]
    have hl0 : 0 < m.data.length := List.length_pos_iff.2 hd
    have h0 : (0 : Int) < (m.data.length : Int) := by omega
    obtain ⟨g, rfl⟩ : ∃ g, A = some ⟨g, 0, none⟩ := by
      rcases hp.chars.2 with ⟨_, hz⟩ | ⟨g, cap', cur, fz, hv, _⟩
      · omega
      · cases hv; exact ⟨g, rfl⟩
    have cS := bf_String pb g cap m.data B w.drew c9 hp.chars hd
    have I1 := (hI.more (Below.drew (Below.refl w.heap.size w))).froze
    have c10d : w.drew.cell? ⟨pb, 10, none⟩ = some (.int .i64 m.dat) := c10
    have hvB := (rowF_kind hp.chars g rfl).1
    have cS' : Calls Tryz.prog 24 #[.pointer (some ⟨pb, 8, none⟩)] w.drew fun e w' => e = .returned (.string (ofBytes m.data)) ∧ BI X w' B pb m (a :: ads) v0 vo (.slice (some ⟨g, 0, none⟩) m.data.length cap) p xs ∧ Goes w (live (a :: ads) v0 vo (.slice (some ⟨g, 0, none⟩) m.data.length cap)) w' (live (a :: ads) v0 vo (.slice (some ⟨g, 0, none⟩) m.data.length cap)) ∧ Below B w w' := cS.mono (fun e w' ⟨h1, kk, h2⟩ => ⟨h1, h2 ▸ I1.more (below_drewN (Below.refl _ _) _), fun k hk hn => ⟨hn, by rw [h2]; exact freeze_ne w.drew g _ k (fun e => hn (e ▸ mem_live.2 (.inr (.inr (.inr rfl)))))⟩, h2 ▸ below_drewN (Lib.below_freeze (Below.drew (Below.refl B w)) (p := ⟨g, 0, none⟩) hvB _) _⟩)
    have cP : ∀ wx, _ → _ := fun wx (h : BI X wx B pb m (a :: ads) v0 vo (.slice (some ⟨g, 0, none⟩) m.data.length cap) p xs) hBx => bo_put B pb m a ads v0 vo _ p xs (charK m.data m.dat) 1 ⟨#[]⟩ ⟨#[]⟩ none 0 0 none 0 0 (ofBytes m.data) m.dat wx h (charK_is _ _ _) hn ha hBx
    clear hI hp hd hfl c9 cS I1 hvB
    go_enter Tryz.func67, Tryz.ntmps67
    go_wp2_with fail
    refine cL.mono ?_
    rintro e w1 ⟨rfl, rfl⟩
    go_wp2_with fail
    go_region_held3 (fun w' => w'.cell? ⟨pb, 10, none⟩ = some (.int .i64 m.dat)) (first | with_reducible exact c10f | with_reducible exact c10e | with_reducible exact c10d | with_reducible exact c10) (first | (go_at_call 24; refine cS'.mono ?_; rintro e w5 ⟨rfl, I5, gg5, b5⟩; have c10e : w5.cell? ⟨pb, 10, none⟩ = some (.int .i64 m.dat) := I5.c10.1) | (go_at_call 68; refine (cP _ I5 (by have := b5.size; omega)).mono ?_; rintro e w6 ⟨g6, cap6, rfl, I6, k6, gg6, b6⟩; have c10f : w6.cell? ⟨pb, 10, none⟩ = some (.int .i64 m.dat) := I6.c10.1))
    all_goals
      obtain ⟨c0', c1', c2', c3', c4', c5', c6', hp6⟩ := I6.bp
      have cR := bf_Reset pb c0' c1' c2' c3' c4' c5' c6' vo p _ _ w6 hp6.blk
      go_wp2_with fail
      refine cR.mono ?_
      rintro e w7 ⟨rfl, hb7, k7⟩
      go_wp2
      go_end0
      have z6 := (b5.trans b6).size
      exact ⟨rfl, ⟨_, _, _, _, _, I6.reset hp6 hb7 k7, ((gg5.trans gg6 b5.size).trans (Goes.keep k7 (mem_live.2 (.inl I6.pbin))) z6).trans (Goes.less (fun k hk => by rcases mem_live.1 hk with x | x | x | x; exact mem_live.2 (.inl x); exact mem_live.2 (.inr (.inl x)); exact mem_live.2 (.inr (.inr (.inl x))); cases x)) (by have := k7.size; omega)⟩, (b5.trans b6).trans (k7.belowB hlow (by omega))⟩
end Go.Proofs.YtppmoeidgefkpaaGreatDoor
end
section
namespace Go.Proofs.YtppmoeidgefkpaaGreatDoor
open Go.RowKit
variable {X : List Nat}
def BuiF (X : List Nat) (H : Nat) (w : World) (B pb : Nat) (m : Mac) (ads : List (Nat × Nat)) : Prop := H < w.heap.size ∧ ∃ v0 vo vd p xs, BI X w B pb m ads v0 vo vd p xs ∧ H ∉ live ads v0 vo vd
theorem Bui.more {w w' : World} {B pb : Nat} {m : Mac} {ads : List (Nat × Nat)} (h : Bui X w B pb m ads) (hb : Below w.heap.size w w') : Bui X w' B pb m ads := by
  obtain ⟨v0, vo, vd, p, xs, h⟩ := h
  exact ⟨v0, vo, vd, p, xs, h.more hb⟩
theorem Bui.reads {w : World} {B pb : Nat} {m : Mac} {a : Nat × Nat} {ads : List (Nat × Nat)} (h : Bui X w B pb m (a :: ads)) : (∃ g cap, w.cell? ⟨pb, 7, none⟩ = some (.slice (some ⟨g, 0, none⟩) (ads.length + 1) cap) ∧ w.cell? ⟨g, ads.length, none⟩ = some (.pointer (some ⟨a.1, a.2, none⟩))) ∧ w.cell? ⟨a.1, a.2 + 2, none⟩ = some (.string m.top.nm) ∧ (∃ A n c, n = m.top.kids.length ∧ w.cell? ⟨a.1, a.2 + 4, none⟩ = some (.slice A n c)) ∧ ads.length = m.up.length ∧ (m.up = [] → a = (pb, 0)) ∧ (∃ A c, w.cell? ⟨pb, 9, none⟩ = some (.slice A m.data.length c)) ∧ pb < w.heap.size ∧ B ≤ pb := by
  obtain ⟨v0, vo, vd, p, xs, h⟩ := h
  obtain ⟨g, cap, h7, hg, _⟩ := h.inner
  obtain ⟨a', r, har, pa, ca, ⟨_, _, k2, _, k4, _, _⟩, _⟩ := h.ti.top7
  injection har with e1 e2
  subst e1
  subst e2
  obtain ⟨A, c, hv0⟩ := row_val h.ti.row
  have hu := Up.mem _ _ h.ti.up
  obtain ⟨c0, c1, c2, c3, c4, c5, c6, hp⟩ := h.bp
  obtain ⟨A', c', hvd⟩ := rowF_val hp.chars
  refine ⟨⟨g, cap, h7, hg⟩, k2, ⟨A, _, c, rfl, by rw [k4, hv0]⟩, by have := hu.2; simp at this; exact this, fun e => ?_, ⟨A', c', by rw [h.c10.2.1, hvd]⟩, hp.lt, hp.low⟩
  rcases h.ti.up.head with ⟨h1, h2, _, _⟩ | ⟨_, _, h3⟩
  · exact Prod.ext h1 h2
  · exact absurd e h3
theorem Bui.pop {w w' : World} {B pb : Nat} {m : Mac} {a : Nat × Nat} {ads : List (Nat × Nat)} {v0 vo vd p : Value} {xs : List Value} (h : BI X w B pb m (a :: ads) v0 vo vd p xs) (hne : m.up ≠ []) {g cap : Nat} (hvo : vo = .slice (some ⟨g, 0, none⟩) (ads.length + 1) cap)
    (hw : w' = w.setCell ⟨pb, 7, none⟩ (.slice (some ⟨g, 0, none⟩) ads.length cap)) : Bui X w' B pb (popM m) ads := by
  subst hw
  subst hvo
  obtain ⟨f, r, hfr⟩ : ∃ f r, m.up = f :: r := by
    cases hm : m.up with
    | nil => exact absurd hm hne
    | cons f r => exact ⟨f, r, rfl⟩
  have ha := h.apart
  have hnp := h.nopb
  obtain ⟨⟨c0, c1, c2, c3, c4, c5, c6, hp⟩, ht, hlw⟩ := h
  have hup := ht.up
  have hnd := nodes_nodup.1 ht.nodup
  rw [hfr] at ht
  have hpop : popM m = { m with top := addKid m.top f, up := r } := by unfold popM; rw [hfr]
  rw [hpop]
  have hane : a.1 ≠ pb := by
    rcases hup.head with ⟨_, _, _, e⟩ | ⟨e, _, _⟩
    · exact absurd e hne
    · exact e
  -- the new live blocks
  have hsub : ∀ v : Value, v.ownBlock = some a.1 → ∀ k, k ∈ live ads v (.slice (some ⟨g, 0, none⟩) ads.length cap) vd → k ∈ live (a :: ads) v0 (.slice (some ⟨g, 0, none⟩) (ads.length + 1) cap) vd := by
    intro v hv k hk
    rcases mem_live.1 hk with x | x | x | x
    · exact mem_live.2 (.inl (by simp at x ⊢; exact .inr x))
    · rw [hv] at x
      injection x with x
      exact mem_live.2 (.inl (by simp [x]))
    · exact mem_live.2 (.inr (.inr (.inl x)))
    · exact mem_live.2 (.inr (.inr (.inr x)))
  have hL' : ∀ v : Value, v.ownBlock = some a.1 → ∀ g', v0.ownBlock = some g' → g' ∉ live ads v (.slice (some ⟨g, 0, none⟩) ads.length cap) vd := by
    intro v hv g' hg' e
    have hn := hnd.2 g' hg'
    simp only [List.map_cons, List.mem_cons, not_or] at hn
    rcases mem_live.1 e with x | x | x | x
    · exact hn.2 x
    · rw [hv] at x
      injection x with x
      exact hn.1 x.symm
    · exact (ha.1 g' (mem_nodes.2 (.inr hg'))).1 x
    · exact (ha.1 g' (mem_nodes.2 (.inr hg'))).2 x
  obtain ⟨v1, hv1⟩ : ∃ v1 : Value, v1 = .slice (some ⟨a.1, 0, none⟩) 0 0 := ⟨_, rfl⟩
  have hv1o : v1.ownBlock = some a.1 := by rw [hv1]; rfl
  obtain ⟨v, xs', ht', hvo'⟩ := ht.pop (L' := live ads v1 (.slice (some ⟨g, 0, none⟩) ads.length cap) vd ++ X) (fun k hk => (List.mem_append.1 hk).elim (fun e => List.mem_append_left _ (hsub v1 hv1o k e)) (fun e => List.mem_append_right _ e)) (fun g' hg' e => (List.mem_append.1 e).elim (hL' v1 hv1o g' hg') (fun x => by have := hlw g' x; have := (row_kind ht.row g' hg').1; omega)) (List.mem_append_left _ (mem_live.2 (.inl (by simp))))
  have hlive : live ads v1 (.slice (some ⟨g, 0, none⟩) ads.length cap) vd = live ads v (.slice (some ⟨g, 0, none⟩) ads.length cap) vd := by unfold live nodesL; rw [hv1o, hvo']
  rw [hlive] at ht'
  have hkp : Keep pb w (w.setCell ⟨pb, 7, none⟩ (.slice (some ⟨g, 0, none⟩) ads.length cap)) := (Keep.refl pb w).set 7 _
  have hpin : pb ∈ live ads v (.slice (some ⟨g, 0, none⟩) ads.length cap) vd := by
    obtain ⟨x, hx⟩ := (Up.mem _ _ ht'.up).1
    exact mem_live.2 (.inl (List.mem_map_of_mem (f := Prod.fst) hx))
  have hb2 := hp.blk.set 7 (.slice (some ⟨g, 0, none⟩) ads.length cap)
  have hpk : ∀ k, k ∈ nodesL ads v → k ≠ pb → (w.setCell ⟨pb, 7, none⟩ (.slice (some ⟨g, 0, none⟩) ads.length cap)).heap[k]? = w.heap[k]? := fun k _ hk => Below.heap_setCell _ _ _ _ hk
  refine ⟨v, .slice (some ⟨g, 0, none⟩) ads.length cap, vd, p, xs', ⟨⟨c0, c1, c2, c3, c4, c5, c6, hp.low, hb2, hp.addr, ?_, rowFs hp.chars (fun g' hg' => Below.heap_setCell _ _ _ _ (fun e => ha.2.2.1 (by rw [← show g' = pb from e]; exact hg')))⟩, ?_, hlw⟩⟩
  · -- the shorter list
    have hro := rowSame (w' := w.setCell ⟨pb, 7, none⟩ (.slice (some ⟨g, 0, none⟩) ads.length cap)) hp.opn (fun g' hg' => Below.heap_setCell _ _ _ _ (fun e => ha.2.1 (by rw [← show g' = pb from e]; exact hg')))
    obtain ⟨hl, h2⟩ := hro
    have hpt : ptrs (a :: ads) = ptrs ads ++ [.pointer (some ⟨a.1, a.2, none⟩)] := by unfold ptrs; simp
    have hpl : (ptrs ads).length = ads.length := by unfold ptrs; simp
    refine ⟨by rw [hpl]; omega, ?_⟩
    rcases h2 with ⟨hv, _⟩ | ⟨g', cap', cur, hv, hb, hh, hnc, hcm, hcs, htk⟩
    · cases hv
    · cases hv
      right
      simp only [List.length_cons] at hnc htk
      refine ⟨g, cap, cur, rfl, hb, hh, by omega, hcm, hcs, ?_⟩
      rw [hpt] at htk
      have := congrArg (List.take ads.length) htk
      rw [List.take_take, List.take_append_of_le_length (by omega), List.take_of_length_le (l := ptrs ads) (by omega)] at this
      rw [← this]
      congr 1
      omega
  · refine ht'.go ((Goes.keep hkp hpin).app X) (fun j hj => cell_set_ne _ _ _ _ _ (by omega)) hpk (fun g' hg' e => ?_)
    rw [hvo'] at hg'
    injection hg' with hg'
    exact hane (hg'.trans e)
end Go.Proofs.YtppmoeidgefkpaaGreatDoor
end
section
namespace Go.Proofs.YtppmoeidgefkpaaGreatDoor
open Go.RowKit
variable {X : List Nat}
set_option maxRecDepth 100000 in
set_option maxHeartbeats 4000000 in
theorem bo_end (B pb : Nat) (m : Mac) (a : Nat × Nat) (ads : List (Nat × Nat)) (t : TokD) (q : Option Addr) (c : Nat) (H : Nat) (w : World) (hI : BuiF X H w B pb m (a :: ads)) (hn : m.top.kids.length ≤ 1000000000) (ha : ads.length ≤ 1000000) (hB : B ≤ w.heap.size) :
    Calls Tryz.prog 47 #[.pointer (some ⟨pb, 0, none⟩), .agg #[.int .i64 t.kind, .string (ofBytes t.nm), .slice q t.al.length c, .bool t.em, .string (ofBytes t.tx), .int .i64 t.at']] w fun e w' => e = .returned (.int .i64 (endM m t).2) ∧ (∃ b bds, Bui X w' B pb (endM m t).1 (b :: bds)) ∧ Below B w w' ∧ w'.heap[H]? = w.heap[H]? := by
  obtain ⟨hHz, v0, vo, vd, p, xs, hIB, hHl⟩ := hI
  have hI : Bui X w B pb m (a :: ads) := ⟨_, _, _, _, _, hIB⟩
  obtain ⟨W, hW⟩ : ∃ W, W = w.alloc (.cells #[.int .i64 t.kind, .string (ofBytes t.nm), .slice q t.al.length c, .bool t.em, .string (ofBytes t.tx), .int .i64 t.at'] 64) := ⟨_, rfl⟩
  have P1 : Blk W w.heap.size #[.int .i64 t.kind, .string (ofBytes t.nm), .slice q t.al.length c, .bool t.em, .string (ofBytes t.tx), .int .i64 t.at'] 64 := by rw [hW]; exact Blk.new w _ _
  have B1 : Below w.heap.size w W := by rw [hW]; exact (Below.refl _ _).alloc (Nat.le_refl _) _
  have I1B := hIB.more B1
  have I1 : Bui X W B pb m (a :: ads) := ⟨_, _, _, _, _, I1B⟩
  have hHW := B1.block H hHz
  have hHz1 : H < W.heap.size := by have := B1.size; omega
  have hHpb : H ≠ pb := fun e => hHl (e ▸ mem_live.2 (.inl hIB.pbin))
  have r1 : W.cell? ⟨w.heap.size, 1, none⟩ = some (.string (ofBytes t.nm)) := P1.cell 1
  have hBW : B ≤ W.heap.size := by have := B1.size; omega
  have B1' := B1.mono hB
  obtain ⟨⟨g, cap, h7, hg⟩, hnm, _, hup, _, _, hpl, hlow⟩ := I1.reads
  have cI := fun wx h1 h2 => bo_innermost pb ads.length (ads.length + 1) g cap (.pointer (some ⟨a.1, a.2, none⟩)) wx rfl h1 h2 ha
  have cO := fun wx h1 => bo_outside pb (ads.length + 1) (some ⟨g, 0, none⟩) cap wx h1
  by_cases hu : m.up = []
  · have he : endM m t = (m, 14) := by unfold endM; rw [if_pos hu]
    rw [he]
    rw [hu] at hup
    rw [show decide (ads.length + 1 = 1) = true by simp [hup]] at cO
    have HI := Lib.hid I1
    have HB := Lib.hid B1'
    clear hI hIB I1B I1 B1 B1' P1 hu he
    go_enter Tryz.func47, Tryz.ntmps47
    go_upto_region 1 with fail
    simp only [← hW]
    clear hW
    go_quiet (first | (go_at_call 28; refine Calls.quiet_of_same (cO _ ?_); exact h7))
    go_wp2
    go_ret
    exact ⟨rfl, ⟨_, _, HI.out.more (below_drewN (Below.refl _ _) _)⟩, below_drewN HB.out _, hHW⟩
  · rw [show decide (ads.length + 1 = 1) = false by simp; intro e; rw [e] at hup; exact hu (List.length_eq_zero_iff.1 hup.symm)] at cO
    by_cases hne : m.top.nm = ofBytes t.nm
    · have he : endM m t = (popM (flushM m), 0) := by unfold endM; rw [if_neg hu, if_neg (fun e => e hne)]
      rw [he]
      rw [hne] at hnm
      have HB := Lib.hid B1'
      have HU := Lib.hid hu
      have hnf : (flushM m).up ≠ [] := by rw [flushM_up]; exact hu
      have HF := Lib.hid hnf
      have HI := Lib.hid I1B
      have hN0 : (0 : Int) ≤ (ads.length : Int) := by omega
      have hw1 : IntKind.i64.wrap (((ads.length + 1 : Nat) : Int) - 1) = (ads.length : Int) := by rw [show ((ads.length + 1 : Nat) : Int) - 1 = (ads.length : Int) by omega]; exact wrap_small _ (by omega) (by omega)
      have hw2 : IntKind.i64.wrap ((ads.length : Int) + 1 - 1) = (ads.length : Int) := by rw [show (ads.length : Int) + 1 - 1 = (ads.length : Int) by omega]; exact wrap_small _ (by omega) (by omega)
      generalize ofBytes t.nm = NM at *
      clear hI hIB I1B I1 B1 B1' P1 hu he hnf hne
      go_enter Tryz.func47, Tryz.ntmps47
      go_upto_region 1 with fail
      simp only [← hW]
      clear hW
      go_quiet (first | (go_at_call 28; refine Calls.quiet_of_same (cO _ ?_); exact h7) | (go_at_call 69; refine Calls.quiet_of (cI _ ?_ ?_); exact h7; exact hg))
      have I2 := HI.out.more (below_drewN (Below.refl W.heap.size W) nq)
      have B2 := below_drewN HB.out nq
      have hHW2 : (W.drewN nq).heap[H]? = w.heap[H]? := hHW
      have hHz2 : H < (W.drewN nq).heap.size := hHz1
      generalize W.drewN nq = W2 at I2 B2 hHW2 hHz2 ⊢
      go_wp2_with fail
      refine (bo_endData B pb m a ads v0 vo vd p xs W2 I2 hn ha (by have := B2.size; omega)).mono ?_
      rintro e w3 ⟨rfl, ⟨u0, uo, ud, up', us, J3, gg3⟩, b3⟩
      have hHW3 := (gg3 H hHz2 hHl).2.trans hHW2
      obtain ⟨g3, cap3, k7, _, hvo⟩ := J3.inner
      have f7 := J3.c10.2.2.2.2
      have hc3 : ads.length + 1 ≤ cap3 := by
        obtain ⟨c0, c1, c2, c3, c4, c5, c6, hp⟩ := J3.bp
        rcases hp.opn.2 with ⟨hv, _⟩ | ⟨g', cap', cur, hv, _, _, hnc, _⟩
        · rw [hvo] at hv; cases hv
        · rw [hvo] at hv; cases hv; simpa using hnc
      have hc3' : (ads.length : Int) ≤ (cap3 : Int) := by omega
      have hc4 : ads.length ≤ cap3 := by omega
      have HJ := Lib.hid J3
      have B3 := B2.trans b3
      have HB3 := Lib.hid B3
      have hbb : ∃ b bds, ads = b :: bds := by
        cases hads : ads with
        | nil => rw [hads] at hup; exact absurd (List.length_eq_zero_iff.1 hup.symm) HU.out
        | cons b bds => exact ⟨b, bds, rfl⟩
      have HBB := Lib.hid hbb
      clear J3 B3 B2 b3 I2 h7 hg hnm r1 hup hbb
      go_wp2
      go_region
      all_goals
        go_wp2
        go_ret
        have hP := Bui.pop (HJ.out.more (Below.drew (Below.refl _ _))) HF.out hvo rfl
        have hlo : Below B w (w3.drew.setCell ⟨pb, 7, none⟩ (.slice (some ⟨g3, 0, none⟩) ads.length cap3)) := (Below.drew HB3.out).setCell (p := ⟨pb, 7, none⟩) hlow _
        obtain ⟨b, bds, hb⟩ := HBB.out
        rw [hb] at hP hlo ⊢
        exact ⟨rfl, ⟨b, bds, hP⟩, hlo, (Below.heap_setCell _ _ _ _ hHpb).trans hHW3⟩
    · have he : endM m t = (m, 14) := by unfold endM; rw [if_neg hu, if_pos hne]
      rw [he]
      have HI := Lib.hid I1
      have HB := Lib.hid B1'
      have h5 := str_ne2 hne
      have h6 := str_ne3 hne
      generalize ofBytes t.nm = NM at *
      generalize m.top.nm = TN at *
      clear hI hIB I1B I1 B1 B1' P1 hu he
      go_enter Tryz.func47, Tryz.ntmps47
      go_upto_region 1 with fail
      simp only [← hW]
      clear hW
      go_quiet (first | (go_at_call 28; refine Calls.quiet_of_same (cO _ ?_); exact h7) | (go_at_call 69; refine Calls.quiet_of (cI _ ?_ ?_); exact h7; exact hg))
      go_wp2
      go_ret
      exact ⟨rfl, ⟨_, _, HI.out.more (below_drewN (Below.refl _ _) _)⟩, below_drewN HB.out _, hHW⟩
end Go.Proofs.YtppmoeidgefkpaaGreatDoor
end
section
namespace Go.Proofs.YtppmoeidgefkpaaGreatDoor
open Go.RowKit
variable {X : List Nat}
theorem be_list (l : List UInt8) : (ofBytes l).toList.isEmpty = l.isEmpty := by rw [ByteArray.toList_eq, ofBytes_list]
theorem bi_WriteString {w : World} {B pb : Nat} {m : Mac} {ads : List (Nat × Nat)} {v0 vo vd p : Value} {xs : List Value} (h : BI X w B pb m ads v0 vo vd p xs) (s : ByteArray) (hB : B ≤ w.heap.size) (hlen : m.data.length + s.size ≤ 140737488355328) :
    Calls Tryz.prog 20 #[.pointer (some ⟨pb, 8, none⟩), .string s] w fun e w' => e = .returned (.tuple #[.int .i64 s.size, .nilIface]) ∧ Bui X w' B pb { m with data := m.data ++ s.data.toList } ads ∧ Below B w w' ∧ ∀ H, H < w.heap.size → H ∉ live ads v0 vo vd → w'.heap[H]? = w.heap[H]? := by
  obtain ⟨c0, c1, c2, c3, c4, c5, c6, hp⟩ := h.bp
  refine (bf_WriteString B pb c0 c1 c2 c3 c4 c5 c6 vo p vd (.int .i64 m.dat) m.data s w hp.blk hp.addr hp.chars hB hlen).mono ?_
  rintro e w' ⟨rfl, vd', hb, hv, hc⟩
  refine ⟨rfl, ⟨_, _, _, _, _, h.chars hp hc hb (.inr rfl) hv⟩, hc.below hp.low (fun k hk => (rowF_kind hp.chars k hk).1) hB, fun H hH hHl => hc.block H hH (fun e => hHl (e ▸ mem_live.2 (.inl h.pbin))) (fun e => hHl (mem_live.2 (.inr (.inr (.inr e.symm)))))⟩
theorem bi_dataAt {w : World} {B pb : Nat} {m : Mac} {ads : List (Nat × Nat)} {v0 vo vd p : Value} {xs : List Value} (h : BI X w B pb m ads v0 vo vd p xs) (d : Int) : BI X (w.setCell ⟨pb, 10, none⟩ (.int .i64 d)) B pb { m with dat := d } ads v0 vo vd p xs := by
  obtain ⟨c0, c1, c2, c3, c4, c5, c6, hp⟩ := h.bp
  have hk : Keep pb w (w.setCell ⟨pb, 10, none⟩ (.int .i64 d)) := (Keep.refl pb w).set 10 _
  exact h.chars hp ⟨hk.os, hk.tape, hk.output, hk.size, fun k h1 h2 _ => hk.block k h1 h2, fun k e => .inl e⟩ (hp.blk.set 10 _) hp.addr (rowFs hp.chars (fun g hg => Below.heap_setCell _ _ _ _ (fun e => h.apart.2.2.1 (by rw [← show g = pb from e]; exact hg))))
set_option maxRecDepth 100000 in
set_option maxHeartbeats 4000000 in
theorem bo_text (B pb : Nat) (m : Mac) (a : Nat × Nat) (ads : List (Nat × Nat)) (t : TokD) (q : Option Addr) (c : Nat) (H : Nat) (w : World) (hI : BuiF X H w B pb m (a :: ads)) (hB : B ≤ w.heap.size) (hd : m.data.length + t.tx.length ≤ 140737488355328) (htx : t.tx.length ≤ 1000000000000) :
    Calls Tryz.prog 48 #[.pointer (some ⟨pb, 0, none⟩), .agg #[.int .i64 t.kind, .string (ofBytes t.nm), .slice q t.al.length c, .bool t.em, .string (ofBytes t.tx), .int .i64 t.at']] w fun e w' => e = .returned (.int .i64 (textM m t).2) ∧ (∃ b bds, Bui X w' B pb (textM m t).1 (b :: bds)) ∧ Below B w w' ∧ w'.heap[H]? = w.heap[H]? := by
  obtain ⟨W, hW⟩ : ∃ W, W = w.alloc (.cells #[.int .i64 t.kind, .string (ofBytes t.nm), .slice q t.al.length c, .bool t.em, .string (ofBytes t.tx), .int .i64 t.at'] 64) := ⟨_, rfl⟩
  have P1 : Blk W w.heap.size #[.int .i64 t.kind, .string (ofBytes t.nm), .slice q t.al.length c, .bool t.em, .string (ofBytes t.tx), .int .i64 t.at'] 64 := by rw [hW]; exact Blk.new w _ _
  have B1 : Below w.heap.size w W := by rw [hW]; exact (Below.refl _ _).alloc (Nat.le_refl _) _
  have r4 : W.cell? ⟨w.heap.size, 4, none⟩ = some (.string (ofBytes t.tx)) := P1.cell 4
  have r5 : W.cell? ⟨w.heap.size, 5, none⟩ = some (.int .i64 t.at') := P1.cell 5
  have hBW : B ≤ W.heap.size := by have := B1.size; omega
  have B1' := B1.mono hB
  have hzW : w.heap.size < W.heap.size := P1.lt
  obtain ⟨hHz, v0, vo, vd, p, xs, hJ, hHl'⟩ := hI
  have hHW := B1.block H hHz
  have hHz1 : H < W.heap.size := by omega
  have hHpb : H ≠ pb := fun e => hHl' (e ▸ mem_live.2 (.inl hJ.pbin))
  have hHl : w.heap.size ∉ live (a :: ads) v0 vo vd := fun e => by have := (hJ.apart.2.2.2.2 _ e).2; omega
  have J1 := hJ.more B1
  have I1 : Bui X W B pb m (a :: ads) := ⟨_, _, _, _, _, J1⟩
  obtain ⟨⟨g, cap, h7, hg⟩, _, _, hup, _, ⟨A9, C9, h9⟩, hpl, hlow⟩ := I1.reads
  have cO := fun wx h1 => bo_outside pb (ads.length + 1) (some ⟨g, 0, none⟩) cap wx h1
  have htz : (ofBytes t.tx).size = t.tx.length := ofBytes_size _
  have htl : (ofBytes t.tx).data.toList = t.tx := ofBytes_list _
  by_cases hu : m.up = []
  · rw [hu] at hup
    rw [show decide (ads.length + 1 = 1) = true by simp [hup]] at cO
    have cC := text_Collapse (ofBytes t.tx) W (by omega)
    rw [htl] at cC
    have HI := Lib.hid I1
    have HB := Lib.hid B1'
    by_cases hc : collapse t.tx = []
    · have he : textM m t = (m, 0) := by unfold textM; rw [if_pos hu, if_pos hc]
      rw [he]
      have hE := be_list (collapse t.tx)
      rw [hc] at cC hE
      rw [show ([] : List UInt8).isEmpty = true from rfl] at hE
      generalize ofBytes [] = CC at *
      clear hJ J1 I1 B1 B1' P1 hu he hup hc hd hHl
      go_enter Tryz.func48, Tryz.ntmps48
      go_upto_region 1 with fail
      simp only [← hW]
      clear hW
      go_wp2_with fail
      refine (cO _ h7).mono ?_
      rintro e w1 ⟨rfl, rfl⟩
      go_wp2_with fail
      refine cC.mono ?_
      rintro e w2 ⟨rfl, b2⟩
      go_wp2
      go_ret
      exact ⟨rfl, ⟨_, _, HI.out.more b2⟩, HB.out.trans (b2.mono hBW), (b2.block H hHz1).trans hHW⟩
    · have he : textM m t = (m, 7) := by unfold textM; rw [if_pos hu, if_neg hc]
      rw [he]
      have hE := be_list (collapse t.tx)
      rw [show (collapse t.tx).isEmpty = false by cases hh : collapse t.tx with | nil => exact absurd hh hc | cons _ _ => rfl] at hE
      generalize ofBytes (collapse t.tx) = CC at *
      clear hJ J1 I1 B1 B1' P1 hu he hup hc hd hHl
      go_enter Tryz.func48, Tryz.ntmps48
      go_upto_region 1 with fail
      simp only [← hW]
      clear hW
      go_wp2_with fail
      refine (cO _ h7).mono ?_
      rintro e w1 ⟨rfl, rfl⟩
      go_wp2_with fail
      refine cC.mono ?_
      rintro e w2 ⟨rfl, b2⟩
      go_wp2
      go_ret
      exact ⟨rfl, ⟨_, _, HI.out.more b2⟩, HB.out.trans (b2.mono hBW), (b2.block H hHz1).trans hHW⟩
  · rw [show decide (ads.length + 1 = 1) = false by simp; intro e; rw [e] at hup; exact hu (List.length_eq_zero_iff.1 hup.symm)] at cO
    have cL := bf_Len pb m.data.length A9 C9 W h9
    have cW : ∀ wx mx vdx px, _ → _ := fun wx mx vdx px (h : BI X wx B pb mx (a :: ads) v0 vo vdx px xs) h1 h2 => bi_WriteString h (ofBytes t.tx) h1 h2
    rw [htl] at cW
    have f10 := J1.c10
    have hlv := J1.apart
    by_cases hda : m.data = []
    · have he : textM m t = ({ m with data := m.data ++ t.tx, dat := t.at' }, 0) := by unfold textM; rw [if_neg hu, if_pos hda]
      rw [he]
      have cL0 : Calls Tryz.prog 71 #[.pointer (some ⟨pb, 8, none⟩)] W fun e w' => e = .returned (.int .i64 0) ∧ w' = W := by rw [hda] at cL; exact cL
      obtain ⟨W2, hW2⟩ : ∃ W2, W2 = W.setCell ⟨pb, 10, none⟩ (.int .i64 t.at') := ⟨_, rfl⟩
      have J2 : BI X W2 B pb { m with dat := t.at' } (a :: ads) v0 vo vd p xs := by rw [hW2]; exact bi_dataAt J1 t.at'
      have hpH : w.heap.size ≠ pb := fun e => hHl (e ▸ mem_live.2 (.inl hJ.pbin))
      have hz2 : W2.heap.size = W.heap.size := by rw [hW2]; simp [World.setCell]
      have s4 : W2.cell? ⟨w.heap.size, 4, none⟩ = some (.string (ofBytes t.tx)) := by rw [hW2, World.cell?_of_block (w := W) (Below.heap_setCell _ _ _ _ hpH)]; exact r4
      have B2 : Below B w W2 := by rw [hW2]; exact B1'.setCell (p := ⟨pb, 10, none⟩) hlow _
      have c2 := cW W2.drew { m with dat := t.at' } vd p (J2.more (Below.drew (Below.refl _ _))) (by show B ≤ W2.heap.size; omega) (by rw [htz]; exact hd)
      have hHW2 : W2.heap[H]? = w.heap[H]? := by rw [hW2]; exact (Below.heap_setCell _ _ _ _ hHpb).trans hHW
      have s4d : W2.drew.cell? ⟨w.heap.size, 4, none⟩ = some (.string (ofBytes t.tx)) := s4
      have k10 := f10.1
      have k10f := f10.2.2.2.1
      rw [hW2] at c2 s4d B2 hHW2 hz2
      have HB := Lib.hid B2
      clear s4 J2
      clear hW2
      have HD := Lib.hid hda
      clear hJ J1 I1 B1 B1' P1 hu he hup hd hda B2 cW f10 hlv cL r4
      go_enter Tryz.func48, Tryz.ntmps48
      go_upto_region 1 with fail
      simp only [← hW]
      clear hW
      go_wp2_with fail
      refine (cO _ h7).mono ?_
      rintro e w1 ⟨rfl, rfl⟩
      go_wp2_with fail
      refine cL0.mono ?_
      rintro e w1' ⟨rfl, rfl⟩
      go_wp2_with fail
      go_region_held3 (fun w' => w'.cell? ⟨w.heap.size, 4, none⟩ = some (.string (ofBytes t.tx))) (first | with_reducible exact s4e | with_reducible exact s4d) ((go_at_call 20; refine c2.mono ?_; rintro e w3 ⟨rfl, I3, b3, hh3⟩; have s4e : w3.cell? ⟨w.heap.size, 4, none⟩ = some (.string (ofBytes t.tx)) := (World.cell?_of_block (hh3 _ (by first | assumption | (show w.heap.size < (World.setCell _ _ _).heap.size; omega)) hHl)).trans s4d))
      all_goals
        go_wp2
        go_ret
        exact ⟨rfl, ⟨_, _, I3⟩, (Below.drew HB.out).trans b3, (hh3 H (by show H < (World.setCell _ _ _).heap.size; omega) hHl').trans hHW2⟩
    · have he : textM m t = ({ m with data := m.data ++ t.tx }, 0) := by unfold textM; rw [if_neg hu, if_neg hda]
      rw [he]
      have hl0 : m.data.length ≠ 0 := fun e => hda (List.length_eq_zero_iff.1 e)
      have hn0 : ((m.data.length : Int) == 0) = false := by simpa using hl0
      have hn1 : ¬ (m.data.length : Int) = 0 := by omega
      have c2 := cW W.drew m vd p (J1.more (Below.drew (Below.refl _ _))) hBW (by rw [htz]; exact hd)
      have s4d : W.drew.cell? ⟨w.heap.size, 4, none⟩ = some (.string (ofBytes t.tx)) := r4
      have HB := Lib.hid B1'
      clear hJ J1 I1 B1 B1' P1 hu he hup hd cW f10 hlv hda
      go_enter Tryz.func48, Tryz.ntmps48
      go_upto_region 1 with fail
      simp only [← hW]
      clear hW
      go_wp2_with fail
      refine (cO _ h7).mono ?_
      rintro e w1 ⟨rfl, rfl⟩
      go_wp2_with fail
      refine cL.mono ?_
      rintro e w1' ⟨rfl, rfl⟩
      go_wp2_with fail
      go_region_held3 (fun w' => w'.cell? ⟨w.heap.size, 4, none⟩ = some (.string (ofBytes t.tx))) (first | with_reducible exact s4e | with_reducible exact s4d) ((go_at_call 20; refine c2.mono ?_; rintro e w3 ⟨rfl, I3, b3, hh3⟩; have s4e : w3.cell? ⟨w.heap.size, 4, none⟩ = some (.string (ofBytes t.tx)) := (World.cell?_of_block (hh3 _ (by first | assumption | (show w.heap.size < (World.setCell _ _ _).heap.size; omega)) hHl)).trans s4d))
      all_goals
        go_wp2
        go_ret
        exact ⟨rfl, ⟨_, _, I3⟩, (Below.drew HB.out).trans b3, (hh3 H hHz1 hHl').trans hHW⟩
end Go.Proofs.YtppmoeidgefkpaaGreatDoor
end
section
namespace Go.Proofs.YtppmoeidgefkpaaGreatDoor
open Go.RowKit
variable {X : List Nat}
theorem ptrs_cons (a : Nat × Nat) (ads : List (Nat × Nat)) : ptrs (a :: ads) = ptrs ads ++ [.pointer (some ⟨a.1, a.2, none⟩)] := by unfold ptrs; simp
theorem attrs_far {w0 w : World} {q : Option Addr} {al : List AttrD} {L : List Nat} {B : Nat} (h : AttrsAt (holes w0 X) q al) (hB : w0.heap.size ≤ B) (hb : Below w0.heap.size w0 w) (hL : ∀ k ∈ L, B ≤ k) : AttrsAt (holes w (L ++ X)) q al := by
  refine h.mono (fun a v hc => ?_)
  obtain ⟨h1, h2, hlt⟩ := holes_cell hc
  rw [holes_out (fun e => (List.mem_append.1 e).elim (fun x => by have := hL _ x; omega) h2), World.cell?_of_block (hb.block _ hlt)]
  exact h1
theorem elemN_is {w : World} {q : Option Addr} {c : Nat} {t : TokD} (h : AttrsAt w q t.al) : NodeIs w (elemN t []) (.agg #[.int .i64 0, .string ⟨#[]⟩, .string (ofBytes t.nm), .slice q t.al.length c, .slice none 0 0, .string ⟨#[]⟩, .int .i64 t.at']) := by
  rw [elemN, NodeIs]
  exact ⟨q, c, none, 0, rfl, h, by rw [KidsAt]; trivial⟩
theorem Bui.push {w3 w4 : World} {B pb : Nat} {m : Mac} {a : Nat × Nat} {ads : List (Nat × Nat)} {t : TokD} {q : Option Addr} {c g cap g4 cap4 : Nat} {vo vd p : Value} {xs : List Value} {o : Obj}
    (h : BI X w3 B pb { m with top := addKid (elemN t []) m.top } (a :: ads) (.slice (some ⟨g, 0, none⟩) (m.top.kids.length + 1) cap) vo vd p (xs ++ cells7 0 ⟨#[]⟩ (ofBytes t.nm) q t.al.length c none 0 0 ⟨#[]⟩ t.at')) (hk : KRow (holes w3 (live (a :: ads) (.slice (some ⟨g, 0, none⟩) (m.top.kids.length + 1) cap) vo vd ++ X)) m.top.kids xs) (hat : AttrsAt (holes w3 (live (a :: ads) (.slice (some ⟨g, 0, none⟩) (m.top.kids.length + 1) cap) vo vd ++ X)) q t.al)
    (ho : w4.ownsRow B 90 1 (.slice (some ⟨g4, 0, none⟩) ((a :: ads).length + 1) cap4) ((a :: ads).length + 1) (ptrs (a :: ads) ++ [.pointer (some ⟨g, m.top.kids.length * 7, none⟩)])) (hgrow : (w3.alloc o).grownBy w4 vo.ownBlock) (hg4 : vo.ownBlock = some g4 ∨ g4 = w3.heap.size + 1) :
    Bui X (w4.setCell ⟨pb, 7, none⟩ (.slice (some ⟨g4, 0, none⟩) ((a :: ads).length + 1) cap4)) B pb { m with top := elemN t [], up := m.top :: m.up } ((g, m.top.kids.length * 7) :: a :: ads) := by
  have ha := h.apart
  have hl := ha.2.2.2.2
  have hgpb := h.nopb g rfl
  have hpin := h.pbin
  obtain ⟨⟨c0, c1, c2, c3, c4, c5, c6, hp⟩, ht, hlw⟩ := h
  obtain ⟨v', hv'⟩ : ∃ v', v' = Value.slice (some ⟨g4, 0, none⟩) ((a :: ads).length + 1) cap4 := ⟨_, rfl⟩
  have hvo' : v'.ownBlock = some g4 := by rw [hv']; rfl
  rw [← hv'] at ho ⊢
  have hplt := hp.lt
  have hgp4 : g4 ≠ pb := by
    rcases hg4 with e | e
    · exact fun e' => ha.2.1 (e' ▸ e)
    · omega
  have hsame : ∀ k, k < w3.heap.size → k ≠ pb → vo.ownBlock ≠ some k → (w4.setCell ⟨pb, 7, none⟩ v').heap[k]? = w3.heap[k]? := fun k h1 h2 h3 => by
    rw [Below.heap_setCell _ _ _ _ h2, hgrow.block k (by simp; omega) (fun e => h3 e.symm)]
    exact heap_alloc_old w3 _ h1
  have hpb4 : w4.heap[pb]? = w3.heap[pb]? := by
    rw [hgrow.block pb (by simp; omega) (fun e => ha.2.1 e.symm)]
    exact heap_alloc_old w3 _ hplt
  have hL1 : ∀ k, k ∈ live ((g, m.top.kids.length * 7) :: a :: ads) (.slice none 0 0) vo vd → k ∈ live (a :: ads) (.slice (some ⟨g, 0, none⟩) (m.top.kids.length + 1) cap) vo vd := by
    intro k hk
    rcases mem_live.1 hk with x | x | x | x
    · rw [List.map_cons] at x
      rcases List.mem_cons.1 x with x | x
      · exact mem_live.2 (.inr (.inl (by rw [show k = g from x]; rfl)))
      · exact mem_live.2 (.inl x)
    · cases x
    · exact mem_live.2 (.inr (.inr (.inl x)))
    · exact mem_live.2 (.inr (.inr (.inr x)))
  have hti := TI.push (L' := live ((g, m.top.kids.length * 7) :: a :: ads) (.slice none 0 0) vo vd ++ X) ht hk hat (fun k hk => (List.mem_append.1 hk).elim (fun e => List.mem_append_left _ (hL1 k e)) (fun e => List.mem_append_right _ e)) hgpb
  have hpin' : pb ∈ live ((g, m.top.kids.length * 7) :: a :: ads) (.slice none 0 0) vo vd := mem_live.2 (.inl (by rw [List.map_cons]; exact List.mem_cons_of_mem _ hpin))
  have hgo : Goes w3 (live ((g, m.top.kids.length * 7) :: a :: ads) (.slice none 0 0) vo vd) (w4.setCell ⟨pb, 7, none⟩ v') (live ((g, m.top.kids.length * 7) :: a :: ads) (.slice none 0 0) v' vd) := fun k hk hn => ⟨fun e => by
      rcases mem_live.1 e with x | x | x | x
      · exact hn (mem_live.2 (.inl x))
      · cases x
      · rw [hvo'] at x
        injection x with x
        rcases hg4 with y | y
        · exact hn (mem_live.2 (.inr (.inr (.inl (x ▸ y)))))
        · omega
      · exact hn (mem_live.2 (.inr (.inr (.inr x)))), hsame k hk (fun e => hn (e ▸ hpin')) (fun e => hn (mem_live.2 (.inr (.inr (.inl e)))))⟩
  have hb4 : Blk w4 pb #[c0, c1, c2, c3, c4, c5, c6, vo, p, vd, .int .i64 m.dat] 89 := hpb4.trans hp.blk
  have hnode : ∀ k ∈ nodesL ((g, m.top.kids.length * 7) :: a :: ads) (.slice none 0 0), k ∈ nodesL (a :: ads) (.slice (some ⟨g, 0, none⟩) (m.top.kids.length + 1) cap) := by
    intro k hk
    rcases mem_nodes.1 hk with x | x
    · rw [List.map_cons] at x
      rcases List.mem_cons.1 x with x | x
      · exact mem_nodes.2 (.inr (by rw [show k = g from x]; rfl))
      · exact mem_nodes.2 (.inl x)
    · cases x
  refine ⟨.slice none 0 0, v', vd, p, [], ⟨⟨c0, c1, c2, c3, c4, c5, c6, hp.low, hb4.set 7 v', hp.addr, ?_, rowFs hp.chars (fun g' hg' => hsame g' (hl g' (mem_live.2 (.inr (.inr (.inr hg'))))).2 (fun e => ha.2.2.1 (e ▸ hg')) (fun e => ha.2.2.2.1 g' e hg'))⟩, ?_, hlw⟩⟩
  · rw [ptrs_cons (g, m.top.kids.length * 7)]
    exact rowSame ho (fun g' hg' => Below.heap_setCell _ _ _ _ (fun e => by rw [hvo'] at hg'; injection hg' with hg'; exact hgp4 (hg'.trans e)))
  · refine hti.go (hgo.app X) (fun j hj => ?_) (fun k hk hkp => ?_) (fun g' hg' => by cases hg')
    · rw [cell_set_ne _ _ _ _ _ (by omega)]
      exact World.cell?_of_block hpb4
    · have hk' := hnode k hk
      exact hsame k (hl k (by rcases mem_nodes.1 hk' with x | x; exact mem_live.2 (.inl x); exact mem_live.2 (.inr (.inl x)))).2 hkp (ha.1 k hk').1
end Go.Proofs.YtppmoeidgefkpaaGreatDoor
end
section
namespace Go.Proofs.YtppmoeidgefkpaaGreatDoor
open Go.RowKit
variable {X : List Nat}
theorem kinfo_ptr : (Tryz.prog.info? 90).map (fun i => (i.zero, i.size, i.bytes)) = some (some (.pointer none), 1, 8) := by kernel_rfl
set_option maxRecDepth 100000 in
set_option maxHeartbeats 8000000 in
theorem bo_start (B pb : Nat) (m : Mac) (a : Nat × Nat) (ads : List (Nat × Nat)) (t : TokD) (q : Option Addr) (c : Nat) (H : Nat) (w0 w : World) (hI : BuiF X H w B pb m (a :: ads)) (hn : m.top.kids.length ≤ 100000000) (ha : ads.length ≤ 1000) (hB : B ≤ w.heap.size) (hA : AttrsAt (holes w0 X) q t.al) (hB0 : w0.heap.size ≤ B) (hb0 : Below w0.heap.size w0 w) :
    Calls Tryz.prog 46 #[.pointer (some ⟨pb, 0, none⟩), .agg #[.int .i64 t.kind, .string (ofBytes t.nm), .slice q t.al.length c, .bool t.em, .string (ofBytes t.tx), .int .i64 t.at']] w fun e w' => e = .returned (.int .i64 (startM m t).2) ∧ (∃ b bds, Bui X w' B pb (startM m t).1 (b :: bds)) ∧ Below B w w' ∧ w'.heap[H]? = w.heap[H]? := by
  obtain ⟨i0, hi0, hi1, hi3, hi4⟩ := info_parts kinfo_ptr
  obtain ⟨W, hW⟩ : ∃ W, W = w.alloc (.cells #[.int .i64 t.kind, .string (ofBytes t.nm), .slice q t.al.length c, .bool t.em, .string (ofBytes t.tx), .int .i64 t.at'] 64) := ⟨_, rfl⟩
  have P1 : Blk W w.heap.size #[.int .i64 t.kind, .string (ofBytes t.nm), .slice q t.al.length c, .bool t.em, .string (ofBytes t.tx), .int .i64 t.at'] 64 := by rw [hW]; exact Blk.new w _ _
  have B1 : Below w.heap.size w W := by rw [hW]; exact (Below.refl _ _).alloc (Nat.le_refl _) _
  have hBW : B ≤ W.heap.size := by have := B1.size; omega
  have B1' := B1.mono hB
  have hzW : w.heap.size < W.heap.size := P1.lt
  obtain ⟨hHz, v0, vo, vd, p, xs, hJ, hHl'⟩ := hI
  have hHW := B1.block H hHz
  have hHz1 : H < W.heap.size := by omega
  have hHpb : H ≠ pb := fun e => hHl' (e ▸ mem_live.2 (.inl hJ.pbin))
  have hHl : w.heap.size ∉ live (a :: ads) v0 vo vd := fun e => by have := (hJ.apart.2.2.2.2 _ e).2; omega
  have J1 := hJ.more B1
  have I1 : Bui X W B pb m (a :: ads) := ⟨_, _, _, _, _, J1⟩
  obtain ⟨⟨g, cap, h7, hg⟩, _, ⟨A4, n4, C4, hn4, h4⟩, hup, hapb, _, hpl, hlow⟩ := I1.reads
  have cO := fun wx h1 => bo_outside pb (ads.length + 1) (some ⟨g, 0, none⟩) cap wx h1
  have HB := Lib.hid B1'
  by_cases hbad : m.up = [] ∧ m.top.kids ≠ []
  · have he : startM m t = (m, 17) := by unfold startM; rw [if_pos hbad]
    rw [he]
    obtain ⟨hu, hk⟩ := hbad
    rw [hu] at hup
    rw [show decide (ads.length + 1 = 1) = true by simp [hup]] at cO
    rw [hapb hu] at h4
    have h4' : W.cell? ⟨pb, 4, none⟩ = some (.slice A4 n4 C4) := h4
    have cH := bo_hasRoot pb n4 A4 C4 W h4'
    rw [show decide (0 < n4) = true by rw [hn4]; simpa using List.length_pos_iff.2 hk] at cH
    have HI := Lib.hid I1
    clear hJ J1 I1 B1 B1' P1 hu he hup hn hHl hk h4 hapb
    go_enter Tryz.func46, Tryz.ntmps46
    go_upto_region 1 with fail
    simp only [← hW]
    clear hW
    go_wp2_with (first | (go_at_call 28; refine (cO _ h7).mono ?_; rintro e w1 ⟨rfl, rfl⟩) | (go_at_call 29; refine cH.mono ?_; rintro e w1 ⟨rfl, rfl⟩))
    go_ret
    exact ⟨rfl, ⟨_, _, HI.out⟩, HB.out, hHW⟩
  · by_cases hdeep : 100 < m.up.length + 1
    · have hu : m.up ≠ [] := fun e => by rw [e] at hdeep; simp at hdeep
      have he : startM m t = (m, 9) := by unfold startM; rw [if_neg hbad, if_pos hdeep]
      rw [he]
      rw [show decide (ads.length + 1 = 1) = false by simp; intro e; rw [e] at hup; exact hu (List.length_eq_zero_iff.1 hup.symm)] at cO
      have hd1 : (100 : Int) < (ads.length : Int) + 1 := by omega
      have HI := Lib.hid I1
      clear hJ J1 I1 B1 B1' P1 hu he hup hn hHl hbad hdeep h4 hapb
      go_enter Tryz.func46, Tryz.ntmps46
      go_upto_region 1 with fail
      simp only [← hW]
      clear hW
      go_wp2_with (first | (go_at_call 28; refine (cO _ h7).mono ?_; rintro e w1 ⟨rfl, rfl⟩))
      go_ret
      exact ⟨rfl, ⟨_, _, HI.out⟩, HB.out, hHW⟩
    · have hd0 : ¬ (100 : Int) < (ads.length : Int) + 1 := by omega
      have hBW0 : Below w0.heap.size w0 W := hb0.trans (B1.mono (by omega))
      have cE := bo_endData B pb m a ads v0 vo vd p xs W J1 (by omega) (by omega) hBW
      have r1 : W.cell? ⟨w.heap.size, 1, none⟩ = some (.string (ofBytes t.nm)) := P1.cell 1
      have r2 : W.cell? ⟨w.heap.size, 2, none⟩ = some (.slice q t.al.length c) := P1.cell 2
      have r3 : W.cell? ⟨w.heap.size, 3, none⟩ = some (.bool t.em) := P1.cell 3
      have r5 : W.cell? ⟨w.heap.size, 5, none⟩ = some (.int .i64 t.at') := P1.cell 5
      have hfk : (flushM m).top.kids.length ≤ m.top.kids.length + 1 := by
        unfold flushM
        split
        · omega
        · show (addKid _ _).kids.length ≤ _
          rw [addKid_kids, List.length_append]
          simp
      have hfu := flushM_up m
      by_cases hem : t.em = true
      · have he : startM m t = ({ flushM m with top := addKid (elemN t []) (flushM m).top }, 0) := by unfold startM; rw [if_neg hbad, if_neg hdeep, if_pos hem]
        rw [he]
        simp only [hem] at r3 hW ⊢
        clear hem
        by_cases hu : m.up = []
        · rw [hu] at hup
          rw [show decide (ads.length + 1 = 1) = true by simp [hup]] at cO
          rw [hapb hu] at h4
          have h4' : W.cell? ⟨pb, 4, none⟩ = some (.slice A4 n4 C4) := h4
          have cH := bo_hasRoot pb n4 A4 C4 W h4'
          rw [show decide (0 < n4) = false by rw [hn4]; simp; exact Decidable.byContradiction (fun e => hbad ⟨hu, e⟩)] at cH
          clear hJ J1 I1 B1 B1' P1 hu he hup hbad hdeep h4 hapb hn4
          go_enter Tryz.func46, Tryz.ntmps46
          go_upto_region 1 with fail
          simp only [← hW]
          clear hW
          go_wp2_with (first | (go_at_call 28; refine (cO _ h7).mono ?_; rintro e w1 ⟨rfl, rfl⟩) | (go_at_call 29; refine cH.mono ?_; rintro e w1 ⟨rfl, rfl⟩))
          refine cE.mono ?_
          rintro e w2 ⟨rfl, ⟨u0, uo, ud, up', ys, J2, gg2⟩, b2⟩
          obtain ⟨hH2', hh2'⟩ := gg2 H (by assumption) hHl'
          obtain ⟨hH2, hh2⟩ := gg2 w.heap.size (by assumption) hHl
          have s1 := (World.cell?_of_block hh2).trans r1
          have s2 := (World.cell?_of_block hh2).trans r2
          have s3 := (World.cell?_of_block hh2).trans r3
          have s5 := (World.cell?_of_block hh2).trans r5
          have z2 := b2.size
          have hA2 := attrs_far (X := X) (L := live (a :: ads) u0 uo ud) hA hB0 (hBW0.trans (b2.mono hB0)) (fun k hk => (J2.apart.2.2.2.2 k hk).1)
          go_wp2_with fail
          refine (bo_put B pb (flushM m) a ads u0 uo ud up' ys (elemN t []) 0 ⟨#[]⟩ (ofBytes t.nm) q t.al.length c none 0 0 ⟨#[]⟩ t.at' w2 J2 (elemN_is hA2) (by omega) (by omega) (by omega)).mono ?_
          rintro e w3 ⟨g3, cap3, rfl, J3, k3, gg3, b3⟩
          obtain ⟨hH3', hh3'⟩ := gg3 H (by omega) hH2'
          have hHW3 := hh3'.trans (hh2'.trans hHW)
          obtain ⟨hH3, hh3⟩ := gg3 w.heap.size (by omega) hH2
          have y3 := (World.cell?_of_block hh3).trans s3
          go_wp2
          go_ret
          exact ⟨rfl, ⟨_, _, _, _, _, _, _, J3⟩, HB.out.trans (b2.trans b3), hHW3⟩
        · rw [show decide (ads.length + 1 = 1) = false by simp; intro e; rw [e] at hup; exact hu (List.length_eq_zero_iff.1 hup.symm)] at cO
          clear hJ J1 I1 B1 B1' P1 hu he hup hbad hdeep h4 hapb hn4
          go_enter Tryz.func46, Tryz.ntmps46
          go_upto_region 1 with fail
          simp only [← hW]
          clear hW
          go_wp2_with (first | (go_at_call 28; refine (cO _ h7).mono ?_; rintro e w1 ⟨rfl, rfl⟩))
          refine cE.mono ?_
          rintro e w2 ⟨rfl, ⟨u0, uo, ud, up', ys, J2, gg2⟩, b2⟩
          obtain ⟨hH2', hh2'⟩ := gg2 H (by assumption) hHl'
          obtain ⟨hH2, hh2⟩ := gg2 w.heap.size (by assumption) hHl
          have s1 := (World.cell?_of_block hh2).trans r1
          have s2 := (World.cell?_of_block hh2).trans r2
          have s3 := (World.cell?_of_block hh2).trans r3
          have s5 := (World.cell?_of_block hh2).trans r5
          have z2 := b2.size
          have hA2 := attrs_far (X := X) (L := live (a :: ads) u0 uo ud) hA hB0 (hBW0.trans (b2.mono hB0)) (fun k hk => (J2.apart.2.2.2.2 k hk).1)
          go_wp2_with fail
          refine (bo_put B pb (flushM m) a ads u0 uo ud up' ys (elemN t []) 0 ⟨#[]⟩ (ofBytes t.nm) q t.al.length c none 0 0 ⟨#[]⟩ t.at' w2 J2 (elemN_is hA2) (by omega) (by omega) (by omega)).mono ?_
          rintro e w3 ⟨g3, cap3, rfl, J3, k3, gg3, b3⟩
          obtain ⟨hH3', hh3'⟩ := gg3 H (by omega) hH2'
          have hHW3 := hh3'.trans (hh2'.trans hHW)
          obtain ⟨hH3, hh3⟩ := gg3 w.heap.size (by omega) hH2
          have y3 := (World.cell?_of_block hh3).trans s3
          go_wp2
          go_ret
          exact ⟨rfl, ⟨_, _, _, _, _, _, _, J3⟩, HB.out.trans (b2.trans b3), hHW3⟩
      · have he : startM m t = ({ flushM m with top := elemN t [], up := (flushM m).top :: (flushM m).up }, 0) := by unfold startM; rw [if_neg hbad, if_neg hdeep, if_neg hem]
        rw [he]
        have hem' : t.em = false := by simpa using hem
        simp only [hem'] at r3 hW ⊢
        clear hem hem'
        by_cases hu : m.up = []
        · rw [hu] at hup
          rw [show decide (ads.length + 1 = 1) = true by simp [hup]] at cO
          rw [hapb hu] at h4
          have h4' : W.cell? ⟨pb, 4, none⟩ = some (.slice A4 n4 C4) := h4
          have cH := bo_hasRoot pb n4 A4 C4 W h4'
          rw [show decide (0 < n4) = false by rw [hn4]; simp; exact Decidable.byContradiction (fun e => hbad ⟨hu, e⟩)] at cH
          clear hJ J1 I1 B1 B1' P1 hu he hup hbad hdeep h4 hapb hn4
          go_enter Tryz.func46, Tryz.ntmps46
          go_upto_region 1 with fail
          simp only [← hW]
          clear hW
          go_wp2_with (first | (go_at_call 28; refine (cO _ h7).mono ?_; rintro e w1 ⟨rfl, rfl⟩) | (go_at_call 29; refine cH.mono ?_; rintro e w1 ⟨rfl, rfl⟩))
          refine cE.mono ?_
          rintro e w2 ⟨rfl, ⟨u0, uo, ud, up', ys, J2, gg2⟩, b2⟩
          obtain ⟨hH2', hh2'⟩ := gg2 H (by assumption) hHl'
          obtain ⟨hH2, hh2⟩ := gg2 w.heap.size (by assumption) hHl
          have s1 := (World.cell?_of_block hh2).trans r1
          have s2 := (World.cell?_of_block hh2).trans r2
          have s3 := (World.cell?_of_block hh2).trans r3
          have s5 := (World.cell?_of_block hh2).trans r5
          have z2 := b2.size
          have hA2 := attrs_far (X := X) (L := live (a :: ads) u0 uo ud) hA hB0 (hBW0.trans (b2.mono hB0)) (fun k hk => (J2.apart.2.2.2.2 k hk).1)
          go_wp2_with fail
          refine (bo_put B pb (flushM m) a ads u0 uo ud up' ys (elemN t []) 0 ⟨#[]⟩ (ofBytes t.nm) q t.al.length c none 0 0 ⟨#[]⟩ t.at' w2 J2 (elemN_is hA2) (by omega) (by omega) (by omega)).mono ?_
          rintro e w3 ⟨g3, cap3, rfl, J3, k3, gg3, b3⟩
          obtain ⟨hH3', hh3'⟩ := gg3 H (by omega) hH2'
          have hHW3 := hh3'.trans (hh2'.trans hHW)
          obtain ⟨hH3, hh3⟩ := gg3 w.heap.size (by omega) hH2
          have y3 := (World.cell?_of_block hh3).trans s3
          obtain ⟨c10, c9, c7, f10, f7⟩ := J3.c10
          have z3 := b3.size
          have hA3 := attrs_far (X := X) (L := live (a :: ads) (.slice (some ⟨g3, 0, none⟩) ((flushM m).top.kids.length + 1) cap3) uo ud) hA hB0 (hBW0.trans ((b2.trans b3).mono hB0)) (fun k hk => (J3.apart.2.2.2.2 k hk).1)
          have hopn : w3.ownsRow B 90 1 uo (a :: ads).length (ptrs (a :: ads)) := by
            obtain ⟨d0, d1, d2, d3, d4, d5, d6, hp⟩ := J3.bp
            exact hp.opn
          have hpo : uo.ownBlock ≠ some pb := J3.apart.2.1
          have hplt3 : pb < w3.heap.size := by omega
          obtain ⟨Ao, Co, huo⟩ := row_val hopn
          subst huo
          go_wp2_with (at_builtin; refine wpList_append_lies _ rfl _ _ 87 rfl B 90 i0 (.pointer none) 1 8 Tryz.underlying87 hi0 hi1 hi3 hi4 rfl (by decide) (.slice Ao (a :: ads).length Co) (a :: ads).length (ptrs (a :: ads)) rfl (hopn.alloc _) ⟨w3.heap.size, 0, none⟩ 1 1 [.pointer (some ⟨g3, (flushM m).top.kids.length * 7, none⟩)] rfl rfl ?c1 ?c2 (by decide) ?c3 ?c4 ?c5 (w3.heap.size + 1) (by simp) ?_)
          case c1 =>
            intro j u hj
            match j, hj with
            | 0, hj => simp at hj; subst hj; simp [Addr.add]
          case c2 => intro u hu'; simp at hu'; subst hu'; rfl
          case c3 => unfold maxLen; simp only [List.length_cons]; omega
          case c4 => simp only [List.length_cons]; omega
          case c5 => simp; omega
          intro g4 cap4 w4 hown4 hgrow4 hat4 hlt4
          have k7 : w4.cell? ⟨pb, 7, none⟩ = some (.slice Ao (a :: ads).length Co) := (hgrow4.cell_far ⟨pb, 7, none⟩ (by simp; omega) (fun e => hpo e.symm)).trans (cell_alloc c7 _)
          have kf : w4.frozen? ⟨pb, 7, none⟩ = false := (hgrow4.frozen_far ⟨pb, 7, none⟩ (by simp; omega) (fun e => hpo e.symm)).trans ((World.frozen?_of_block (w := w3) (heap_alloc_old w3 _ hplt3)).trans f7)
          have hP := Bui.push (m := flushM m) J3 k3 hA3 hown4 hgrow4 hat4
          have hlo : Below B w3 (w4.setCell ⟨pb, 7, none⟩ (.slice (some ⟨g4, 0, none⟩) ((a :: ads).length + 1) cap4)) := by
            have h4b : Below B w3 w4 := by
              refine ⟨hgrow4.os, hgrow4.tape, hgrow4.output, by have := hgrow4.size; simp at this; omega, fun k hk => ?_⟩
              rw [hgrow4.block k (by simp; omega) (fun e => by have := (row_kind hopn k e.symm).1; omega)]
              exact heap_alloc_old w3 _ (by omega)
            exact h4b.setCell (p := ⟨pb, 7, none⟩) hlow _
          have hHW5 : (w4.setCell ⟨pb, 7, none⟩ (.slice (some ⟨g4, 0, none⟩) ((a :: ads).length + 1) cap4)).heap[H]? = w.heap[H]? := by
            rw [Below.heap_setCell _ _ _ _ hHpb, hgrow4.block H (by simp; omega) (fun e => hH3' (mem_live.2 (.inr (.inr (.inl e.symm)))))]
            exact (heap_alloc_old w3 _ (by omega)).trans hHW3
          have HP := Lib.hid hP
          have HL := Lib.hid hlo
          clear hP hlo hown4 hgrow4 hat4 J3 k3 gg3 hopn c7 c9 c10 J2 gg2
          go_wp2
          go_ret
          exact ⟨rfl, ⟨_, _, HP.out⟩, HB.out.trans ((b2.trans b3).trans HL.out), hHW5⟩
        · rw [show decide (ads.length + 1 = 1) = false by simp; intro e; rw [e] at hup; exact hu (List.length_eq_zero_iff.1 hup.symm)] at cO
          clear hJ J1 I1 B1 B1' P1 hu he hup hbad hdeep h4 hapb hn4
          go_enter Tryz.func46, Tryz.ntmps46
          go_upto_region 1 with fail
          simp only [← hW]
          clear hW
          go_wp2_with (first | (go_at_call 28; refine (cO _ h7).mono ?_; rintro e w1 ⟨rfl, rfl⟩))
          refine cE.mono ?_
          rintro e w2 ⟨rfl, ⟨u0, uo, ud, up', ys, J2, gg2⟩, b2⟩
          obtain ⟨hH2', hh2'⟩ := gg2 H (by assumption) hHl'
          obtain ⟨hH2, hh2⟩ := gg2 w.heap.size (by assumption) hHl
          have s1 := (World.cell?_of_block hh2).trans r1
          have s2 := (World.cell?_of_block hh2).trans r2
          have s3 := (World.cell?_of_block hh2).trans r3
          have s5 := (World.cell?_of_block hh2).trans r5
          have z2 := b2.size
          have hA2 := attrs_far (X := X) (L := live (a :: ads) u0 uo ud) hA hB0 (hBW0.trans (b2.mono hB0)) (fun k hk => (J2.apart.2.2.2.2 k hk).1)
          go_wp2_with fail
          refine (bo_put B pb (flushM m) a ads u0 uo ud up' ys (elemN t []) 0 ⟨#[]⟩ (ofBytes t.nm) q t.al.length c none 0 0 ⟨#[]⟩ t.at' w2 J2 (elemN_is hA2) (by omega) (by omega) (by omega)).mono ?_
          rintro e w3 ⟨g3, cap3, rfl, J3, k3, gg3, b3⟩
          obtain ⟨hH3', hh3'⟩ := gg3 H (by omega) hH2'
          have hHW3 := hh3'.trans (hh2'.trans hHW)
          obtain ⟨hH3, hh3⟩ := gg3 w.heap.size (by omega) hH2
          have y3 := (World.cell?_of_block hh3).trans s3
          obtain ⟨c10, c9, c7, f10, f7⟩ := J3.c10
          have z3 := b3.size
          have hA3 := attrs_far (X := X) (L := live (a :: ads) (.slice (some ⟨g3, 0, none⟩) ((flushM m).top.kids.length + 1) cap3) uo ud) hA hB0 (hBW0.trans ((b2.trans b3).mono hB0)) (fun k hk => (J3.apart.2.2.2.2 k hk).1)
          have hopn : w3.ownsRow B 90 1 uo (a :: ads).length (ptrs (a :: ads)) := by
            obtain ⟨d0, d1, d2, d3, d4, d5, d6, hp⟩ := J3.bp
            exact hp.opn
          have hpo : uo.ownBlock ≠ some pb := J3.apart.2.1
          have hplt3 : pb < w3.heap.size := by omega
          obtain ⟨Ao, Co, huo⟩ := row_val hopn
          subst huo
          go_wp2_with (at_builtin; refine wpList_append_lies _ rfl _ _ 87 rfl B 90 i0 (.pointer none) 1 8 Tryz.underlying87 hi0 hi1 hi3 hi4 rfl (by decide) (.slice Ao (a :: ads).length Co) (a :: ads).length (ptrs (a :: ads)) rfl (hopn.alloc _) ⟨w3.heap.size, 0, none⟩ 1 1 [.pointer (some ⟨g3, (flushM m).top.kids.length * 7, none⟩)] rfl rfl ?c1 ?c2 (by decide) ?c3 ?c4 ?c5 (w3.heap.size + 1) (by simp) ?_)
          case c1 =>
            intro j u hj
            match j, hj with
            | 0, hj => simp at hj; subst hj; simp [Addr.add]
          case c2 => intro u hu'; simp at hu'; subst hu'; rfl
          case c3 => unfold maxLen; simp only [List.length_cons]; omega
          case c4 => simp only [List.length_cons]; omega
          case c5 => simp; omega
          intro g4 cap4 w4 hown4 hgrow4 hat4 hlt4
          have k7 : w4.cell? ⟨pb, 7, none⟩ = some (.slice Ao (a :: ads).length Co) := (hgrow4.cell_far ⟨pb, 7, none⟩ (by simp; omega) (fun e => hpo e.symm)).trans (cell_alloc c7 _)
          have kf : w4.frozen? ⟨pb, 7, none⟩ = false := (hgrow4.frozen_far ⟨pb, 7, none⟩ (by simp; omega) (fun e => hpo e.symm)).trans ((World.frozen?_of_block (w := w3) (heap_alloc_old w3 _ hplt3)).trans f7)
          have hP := Bui.push (m := flushM m) J3 k3 hA3 hown4 hgrow4 hat4
          have hlo : Below B w3 (w4.setCell ⟨pb, 7, none⟩ (.slice (some ⟨g4, 0, none⟩) ((a :: ads).length + 1) cap4)) := by
            have h4b : Below B w3 w4 := by
              refine ⟨hgrow4.os, hgrow4.tape, hgrow4.output, by have := hgrow4.size; simp at this; omega, fun k hk => ?_⟩
              rw [hgrow4.block k (by simp; omega) (fun e => by have := (row_kind hopn k e.symm).1; omega)]
              exact heap_alloc_old w3 _ (by omega)
            exact h4b.setCell (p := ⟨pb, 7, none⟩) hlow _
          have hHW5 : (w4.setCell ⟨pb, 7, none⟩ (.slice (some ⟨g4, 0, none⟩) ((a :: ads).length + 1) cap4)).heap[H]? = w.heap[H]? := by
            rw [Below.heap_setCell _ _ _ _ hHpb, hgrow4.block H (by simp; omega) (fun e => hH3' (mem_live.2 (.inr (.inr (.inl e.symm)))))]
            exact (heap_alloc_old w3 _ (by omega)).trans hHW3
          have HP := Lib.hid hP
          have HL := Lib.hid hlo
          clear hP hlo hown4 hgrow4 hat4 J3 k3 gg3 hopn c7 c9 c10 J2 gg2
          go_wp2
          go_ret
          exact ⟨rfl, ⟨_, _, HP.out⟩, HB.out.trans ((b2.trans b3).trans HL.out), hHW5⟩
end Go.Proofs.YtppmoeidgefkpaaGreatDoor
end
section
namespace Go.Proofs.YtppmoeidgefkpaaGreatDoor
open Go.RowKit
variable {X : List Nat}
set_option maxRecDepth 100000 in
set_option maxHeartbeats 4000000 in
theorem bo_add (B pb : Nat) (m : Mac) (a : Nat × Nat) (ads : List (Nat × Nat)) (t : TokD) (q : Option Addr) (c : Nat) (H : Nat) (w0 w : World) (hI : BuiF X H w B pb m (a :: ads)) (hn : m.top.kids.length ≤ 100000000) (ha : ads.length ≤ 1000) (hB : B ≤ w.heap.size) (hA : AttrsAt (holes w0 X) q t.al) (hB0 : w0.heap.size ≤ B) (hb0 : Below w0.heap.size w0 w) (hd : m.data.length + t.tx.length ≤ 140737488355328) (htx : t.tx.length ≤ 1000000000000) :
    Calls Tryz.prog 27 #[.pointer (some ⟨pb, 0, none⟩), .agg #[.int .i64 t.kind, .string (ofBytes t.nm), .slice q t.al.length c, .bool t.em, .string (ofBytes t.tx), .int .i64 t.at']] w fun e w' => e = .returned (.int .i64 (addM m t).2) ∧ (∃ b bds, Bui X w' B pb (addM m t).1 (b :: bds)) ∧ Below B w w' ∧ w'.heap[H]? = w.heap[H]? := by
  obtain ⟨kd, nm, al, em, tx, at'⟩ := t
  simp only at hA hd htx ⊢
  obtain ⟨W, hW⟩ : ∃ W, W = w.alloc (.cells #[.int .i64 kd, .string (ofBytes nm), .slice q al.length c, .bool em, .string (ofBytes tx), .int .i64 at'] 64) := ⟨_, rfl⟩
  have P1 : Blk W w.heap.size #[.int .i64 kd, .string (ofBytes nm), .slice q al.length c, .bool em, .string (ofBytes tx), .int .i64 at'] 64 := by rw [hW]; exact Blk.new w _ _
  have B1 : Below w.heap.size w W := by rw [hW]; exact (Below.refl _ _).alloc (Nat.le_refl _) _
  have hBW : B ≤ W.heap.size := by have := B1.size; omega
  have B1' := B1.mono hB
  have I1 : BuiF X H W B pb m (a :: ads) := by
    obtain ⟨hHz, v0, vo, vd, p, xs, hJ, hHl⟩ := hI
    exact ⟨by have := B1.size; omega, v0, vo, vd, p, xs, hJ.more B1, hHl⟩
  have hHW := B1.block H hI.1
  have r0 : W.cell? ⟨w.heap.size, 0, none⟩ = some (.int .i64 kd) := P1.cell 0
  have r1 : W.cell? ⟨w.heap.size, 1, none⟩ = some (.string (ofBytes nm)) := P1.cell 1
  have r2 : W.cell? ⟨w.heap.size, 2, none⟩ = some (.slice q al.length c) := P1.cell 2
  have r3 : W.cell? ⟨w.heap.size, 3, none⟩ = some (.bool em) := P1.cell 3
  have r4 : W.cell? ⟨w.heap.size, 4, none⟩ = some (.string (ofBytes tx)) := P1.cell 4
  have r5 : W.cell? ⟨w.heap.size, 5, none⟩ = some (.int .i64 at') := P1.cell 5
  have hBW0 : Below w0.heap.size w0 W := hb0.trans (B1.mono (by omega))
  have HB := Lib.hid B1'
  by_cases h1 : kd = 1
  · subst h1
    have he : addM m ⟨1, nm, al, em, tx, at'⟩ = startM m ⟨1, nm, al, em, tx, at'⟩ := by unfold addM; rw [if_pos rfl]
    rw [he]
    have cS := bo_start B pb m a ads ⟨1, nm, al, em, tx, at'⟩ q c H w0 W I1 hn ha hBW hA hB0 hBW0
    clear hI I1 B1 B1' P1 hn hA he
    go_enter Tryz.func27, Tryz.ntmps27
    go_upto_region 1 with fail
    simp only [← hW]
    clear hW
    go_wp2_with fail
    refine cS.mono ?_
    rintro e w2 ⟨rfl, I2, b2, hh2⟩
    go_wp2
    go_ret
    exact ⟨rfl, I2, HB.out.trans b2, hh2.trans hHW⟩
  · by_cases h2 : kd = 2
    · subst h2
      have he : addM m ⟨2, nm, al, em, tx, at'⟩ = endM m ⟨2, nm, al, em, tx, at'⟩ := by unfold addM; rw [if_neg h1, if_pos rfl]
      rw [he]
      have cS := bo_end B pb m a ads ⟨2, nm, al, em, tx, at'⟩ q c H W I1 (by omega) (by omega) hBW
      clear hI I1 B1 B1' P1 hn hA he h1
      go_enter Tryz.func27, Tryz.ntmps27
      go_upto_region 1 with fail
      simp only [← hW]
      clear hW
      go_wp2_with fail
      refine cS.mono ?_
      rintro e w2 ⟨rfl, I2, b2, hh2⟩
      go_wp2
      go_ret
      exact ⟨rfl, I2, HB.out.trans b2, hh2.trans hHW⟩
    · have he : addM m ⟨kd, nm, al, em, tx, at'⟩ = textM m ⟨kd, nm, al, em, tx, at'⟩ := by unfold addM; rw [if_neg h1, if_neg h2]
      rw [he]
      have cS := bo_text B pb m a ads ⟨kd, nm, al, em, tx, at'⟩ q c H W I1 hBW hd htx
      have d1 : (kd == 1) = false := by simpa using h1
      have d2 : (kd == 2) = false := by simpa using h2
      clear hI I1 B1 B1' P1 hn hA he
      go_enter Tryz.func27, Tryz.ntmps27
      go_upto_region 1 with fail
      simp only [← hW]
      clear hW
      go_wp2_with fail
      refine cS.mono ?_
      rintro e w2 ⟨rfl, I2, b2, hh2⟩
      go_wp2
      go_ret
      exact ⟨rfl, I2, HB.out.trans b2, hh2.trans hHW⟩
theorem Bui.new {w w1 w4 : World} {o : Obj} {g4 cap4 : Nat} (hX : ∀ k ∈ X, k < w.heap.size) (hb : Blk w1 w.heap.size #[.int .i64 0, .string ⟨#[]⟩, .string ⟨#[]⟩, .slice none 0 0, .slice none 0 0, .string ⟨#[]⟩, .int .i64 0, .slice none 0 0, .pointer none, .slice none 0 0, .int .i64 0] 89)
    (ho : w4.ownsRow w.heap.size 90 1 (.slice (some ⟨g4, 0, none⟩) (0 + 1) cap4) (0 + 1) ([] ++ [.pointer (some ⟨w.heap.size, 0, none⟩)])) (hgrow : (w1.alloc o).grownBy w4 none) (hg4 : g4 = w1.heap.size + 1) :
    Bui X (w4.setCell ⟨w.heap.size, 7, none⟩ (.slice (some ⟨g4, 0, none⟩) (0 + 1) cap4)) w.heap.size w.heap.size mac0 [(w.heap.size, 0)] := by
  have hlt := hb.lt
  have h4 : Blk w4 w.heap.size _ 89 := (hgrow.block w.heap.size (by simp; omega) (by simp)).trans ((heap_alloc_old w1 _ hlt).trans hb)
  have h5 := h4.set 7 (.slice (some ⟨g4, 0, none⟩) (0 + 1) cap4)
  refine ⟨.slice none 0 0, .slice (some ⟨g4, 0, none⟩) (0 + 1) cap4, .slice none 0 0, .pointer none, [], ⟨⟨_, _, _, _, _, _, _, Nat.le_refl _, h5, .inl rfl, rowSame ho (fun g' hg' => Below.heap_setCell _ _ _ _ (fun e => ?_)), ⟨by simp [Lib.byteCells, mac0], .inl ⟨rfl, rfl⟩⟩⟩, ?_, hX⟩⟩
  · simp only [Value.ownBlock, Option.some.injEq] at hg'
    have : g' = w.heap.size := e
    omega
  · refine ⟨nodes_nodup.2 ⟨by simp, fun k hk => by cases hk⟩, ⟨_, _, rfl, none, 0, ⟨h5.cell 0, h5.cell 1, h5.cell 2, h5.cell 3, h5.cell 4, h5.cell 5, h5.cell 6⟩, fun i h => absurd h (Nat.not_lt_zero _)⟩, World.ownsRow_nil _ _ _ _, rfl, ⟨rfl, rfl⟩⟩
set_option maxRecDepth 100000 in
set_option maxHeartbeats 4000000 in
theorem bo_new (w : World) (hX : ∀ k ∈ X, k < w.heap.size) : Calls Tryz.prog 26 #[] w fun e w' => e = .returned (.pointer (some ⟨w.heap.size, 0, none⟩)) ∧ Bui X w' w.heap.size w.heap.size mac0 [(w.heap.size, 0)] ∧ Below w.heap.size w w' := by
  obtain ⟨i0, hi0, hi1, hi3, hi4⟩ := info_parts kinfo_ptr
  obtain ⟨W, hW⟩ : ∃ W, W = w.alloc (.cells #[.int .i64 0, .string ⟨#[]⟩, .string ⟨#[]⟩, .slice none 0 0, .slice none 0 0, .string ⟨#[]⟩, .int .i64 0, .slice none 0 0, .pointer none, .slice none 0 0, .int .i64 0] 89) := ⟨_, rfl⟩
  have P1 : Blk W w.heap.size #[.int .i64 0, .string ⟨#[]⟩, .string ⟨#[]⟩, .slice none 0 0, .slice none 0 0, .string ⟨#[]⟩, .int .i64 0, .slice none 0 0, .pointer none, .slice none 0 0, .int .i64 0] 89 := by rw [hW]; exact Blk.new w _ _
  have B1 : Below w.heap.size w W := by rw [hW]; exact (Below.refl _ _).alloc (Nat.le_refl _) _
  have r7 : W.cell? ⟨w.heap.size, 7, none⟩ = some (.slice none 0 0) := P1.cell 7
  have r7a := cell_alloc r7
  have hz : w.heap.size < W.heap.size := P1.lt
  have hBW : w.heap.size ≤ W.heap.size + 1 := by omega
  have hown : ∀ o : Obj, (W.alloc o).drew.ownsRow w.heap.size 90 1 (.slice none 0 0) 0 [] := fun o => World.ownsRow_nil _ _ _ _
  have hnews : ∀ j u, ([.pointer (some ⟨w.heap.size, 0, none⟩)] : List Value)[j]? = some u → (W.alloc (.cells #[.pointer (some ⟨w.heap.size, 0, none⟩)] 90)).drew.cell? ((⟨W.heap.size, 0, none⟩ : Addr).add j) = some u := World.news_of_block (w := (W.alloc (.cells #[.pointer (some ⟨w.heap.size, 0, none⟩)] 90)).drew) (cs := #[.pointer (some ⟨w.heap.size, 0, none⟩)]) (heap_alloc_new W _)
  have hp4 : ∀ (w4 : World), ((W.alloc (.cells #[.pointer (some ⟨w.heap.size, 0, none⟩)] 90)).drew).grownBy w4 none → w4.cell? ⟨w.heap.size, 7, none⟩ = some (.slice none 0 0) ∧ w4.frozen? ⟨w.heap.size, 7, none⟩ = false := by
    intro w4 hgrow
    exact ⟨(hgrow.cell_far ⟨w.heap.size, 7, none⟩ (by simp; omega) (by simp)).trans (cell_alloc r7 _), (hgrow.frozen_far ⟨w.heap.size, 7, none⟩ (by simp; omega) (by simp)).trans ((World.frozen?_of_block (w := W) (heap_alloc_old W _ hz)).trans (P1.fr 7))⟩
  have HB := Lib.hid B1
  have HP := Lib.hid P1
  clear B1 P1
  go_enter Tryz.func26, Tryz.ntmps26
  go_upto_region 2 with fail
  simp only [← hW]
  clear hW
  go_region_law ((refine step_append_lies _ rfl (.tmp 8) (.tmp 12) 87 rfl w.heap.size 90 i0 (.pointer none) 1 8 Tryz.underlying87 hi0 hi1 hi3 hi4 rfl (by decide) (.slice none 0 0) 0 [] (by simp [Act.eval]) (hown _) ⟨W.heap.size, 0, none⟩ 1 1 [.pointer (some ⟨w.heap.size, 0, none⟩)] (by simp [Act.eval]) rfl hnews (by intro u hu; simp at hu; subst hu; rfl) (by decide) (by decide) (by decide) (by simpa using hBW) (W.heap.size + 1) (by simp) ?_; intro g4 cap4 w4 hown4 hgrow4 hat4 hlt4; obtain ⟨k7, kf⟩ := hp4 w4 hgrow4))
  all_goals
    go_wp2
    go_ret
    have hg4 : g4 = W.heap.size + 1 := by
      rcases hat4 with x | x
      · cases x
      · exact x
    have h4b : Below w.heap.size W w4 := by
      refine ⟨hgrow4.os, hgrow4.tape, hgrow4.output, by have := hgrow4.size; simp at this; omega, fun k hk => ?_⟩
      rw [hgrow4.block k (by simp; omega) (by simp [Value.ownBlock])]
      exact heap_alloc_old W _ (by omega)
    exact ⟨rfl, Bui.new (o := .cells #[.pointer (some ⟨w.heap.size, 0, none⟩)] 90) hX HP.out hown4 ⟨hgrow4.os, hgrow4.tape, hgrow4.output, hgrow4.size, hgrow4.block⟩ hg4, HB.out.trans (h4b.setCell (p := ⟨w.heap.size, 7, none⟩) (Nat.le_refl _) _)⟩
end Go.Proofs.YtppmoeidgefkpaaGreatDoor
end
section
namespace Go.Proofs.YtppmoeidgefkpaaGreatDoor
open Go.RowKit
def ParsIs (w0 : World) (R : NodeD × Int × Int) (e : Ending) (w' : World) : Prop := ∃ v, e = .returned (.tuple #[v, .int .i64 R.2.1, .int .i64 R.2.2]) ∧ NodeIs w' R.1 v ∧ Below w0.heap.size w0 w'
theorem runM_drop (m : Mac) (l : List TokD) (i : Nat) (h : i < l.length) : runM m (l.drop i) = if (addM m l[i]).2 ≠ 0 then ((addM m l[i]).1, l[i].at', (addM m l[i]).2) else runM (addM m l[i]).1 (l.drop (i + 1)) := by
  rw [List.drop_eq_getElem_cons h, runM]
theorem BI.done {X : List Nat} {w : World} {B pb : Nat} {m : Mac} {a : Nat × Nat} {ads : List (Nat × Nat)} {v0 vo vd p : Value} {xs : List Value} (h : BI X w B pb m (a :: ads) v0 vo vd p xs) (hu : m.up = []) {k : NodeD} {r : List NodeD} (hk : m.top.kids = k :: r) :
    ∃ g cap pa ca pk ck, w.cell? ⟨pb, 4, none⟩ = some (.slice (some ⟨g, 0, none⟩) m.top.kids.length cap) ∧ At7 w g 0 k.kind k.sp k.nm pa k.al.length ca pk k.kids.length ck k.tx k.at' ∧ NodeIs (holes w (live (a :: ads) v0 vo vd ++ X)) k (.agg #[.int .i64 k.kind, .string k.sp, .string k.nm, .slice pa k.al.length ca, .slice pk k.kids.length ck, .string k.tx, .int .i64 k.at']) := by
  have hb : Bui X w B pb m (a :: ads) := ⟨_, _, _, _, _, h⟩
  obtain ⟨_, _, _, _, hap, _⟩ := hb.reads
  have hapb := hap hu
  obtain ⟨a', r', har, pa0, ca0, ⟨_, _, _, _, k4, _, _⟩, _⟩ := h.ti.top7
  injection har with e1 e2
  subst e1
  rw [hapb] at k4
  obtain ⟨g, cap, hv0, _, _⟩ := World.ownsRow.form h.ti.row (by rw [hk]; simp)
  have hkr := h.ti.kids
  have hrow := h.ti.row
  rw [hk, KRow] at hkr
  obtain ⟨c0, c1, c2, c3, c4, c5, c6, ys, hxs, hn, _⟩ := hkr
  have hn' := hn
  rw [node_is] at hn
  obtain ⟨pa, ca, pk, ck, he, _, _⟩ := hn
  injection he with he
  have hcs : [c0, c1, c2, c3, c4, c5, c6] = [.int .i64 k.kind, .string k.sp, .string k.nm, .slice pa k.al.length ca, .slice pk k.kids.length ck, .string k.tx, .int .i64 k.at'] := by simpa using he
  simp only [List.cons.injEq, and_true] at hcs
  obtain ⟨rfl, rfl, rfl, rfl, rfl, rfl, rfl⟩ := hcs
  have hc : ∀ j u, xs[j]? = some u → w.cell? ⟨g, j, none⟩ = some u := by
    intro j u hu'
    have := World.ownsRow.cells hrow (g := g) (by rw [hv0]; rfl) j u hu'
    rw [show (⟨g, 0, none⟩ : Addr).add j = ⟨g, j, none⟩ by unfold Addr.add; split <;> simp_all] at this
    exact this
  refine ⟨g, cap, pa, ca, pk, ck, by rw [← hv0]; exact k4, ⟨hc 0 _ (by rw [hxs]; rfl), hc 1 _ (by rw [hxs]; rfl), hc 2 _ (by rw [hxs]; rfl), hc 3 _ (by rw [hxs]; rfl), hc 4 _ (by rw [hxs]; rfl), hc 5 _ (by rw [hxs]; rfl), hc 6 _ (by rw [hxs]; rfl)⟩, hn'⟩
theorem sevK (R : Nat) (w : World) (u0 u1 u2 u3 u4 u5 u6 : Value) : Keep R w (((((((w.setCell ⟨R, 0, none⟩ u0).setCell ⟨R, 1, none⟩ u1).setCell ⟨R, 2, none⟩ u2).setCell ⟨R, 3, none⟩ u3).setCell ⟨R, 4, none⟩ u4).setCell ⟨R, 5, none⟩ u5).setCell ⟨R, 6, none⟩ u6) := (((((((Keep.refl R w).set 0 u0).set 1 u1).set 2 u2).set 3 u3).set 4 u4).set 5 u5).set 6 u6
theorem fresh_keep {R : Nat} {w w1 w2 : World} (h : Below w.heap.size w w1) (hk : Keep R w1 w2) (hR : w.heap.size = R) : Below w.heap.size w w2 := hk.below h (by omega) h.size
set_option maxRecDepth 100000 in
set_option maxHeartbeats 16000000 in
theorem xt_Parse (s : ByteArray) (w : World) (hs : s.size ≤ 40000) (hT : TokT w) : Calls Tryz.prog 9 #[.string s] w fun e w' => ParsIs w (parseP s) e w' := by
  have hE : parseP s = if (toksP s).2.2 ≠ 0 then (zeroN, (toksP s).2.1, (toksP s).2.2)
    else if (runM mac0 (toksP s).1).2.2 ≠ 0 then (zeroN, (runM mac0 (toksP s).1).2.1, (runM mac0 (toksP s).1).2.2)
    else match (runM mac0 (toksP s).1).1.up, (runM mac0 (toksP s).1).1.top.kids with
      | [], k :: _ => (k, (s.size : Int), 0)
      | _, _ => (zeroN, (s.size : Int), 8) := rfl
  obtain ⟨W0, hW0⟩ : ∃ W0, W0 = w.alloc (.cells nodeZs 25) := ⟨_, rfl⟩
  have P0 : Blk W0 w.heap.size nodeZs 25 := by rw [hW0]; exact Blk.new w _ _
  have B0 : Below w.heap.size w W0 := by rw [hW0]; exact (Below.refl _ _).alloc (Nat.le_refl _) _
  have cT := tok_TokensN s W0 (by omega) (TokT_below hT (by rw [hW0]; exact (Below.refl _ _).alloc (Nat.le_refl _) _))
  have hsm := (toksP_small s).1
  have htx := toksP_tx s
  unfold TokIsN at cT
  generalize toksP s = TP at *
  obtain ⟨l, x1, x2⟩ := TP
  simp only at cT hE hsm htx
  have hz0 : w.heap.size < W0.heap.size := P0.lt
  have HP0 := Lib.hid P0
  have HB0 := Lib.hid B0
  have HTX := Lib.hid htx
  have hM : (s.size + 1) * (s.size + 4) ≤ 40001 * 40004 := Nat.mul_le_mul (by omega) (by omega)
  have HM := Lib.hid hM
  clear P0 B0 htx hT hM
  by_cases hx2 : x2 = 0
  · subst hx2
    rw [if_neg (by decide)] at hE
    have HE := Lib.hid hE
    clear hE
    go_enter Tryz.func9, Tryz.ntmps9
    go_upto_region 1 with fail
    simp only [nodeZs] at hW0
    simp only [← hW0]
    clear hW0
    go_wp2_with fail
    refine cT.mono ?_
    rintro e w1 ⟨p, c, rfl, hTk, b1⟩
    have P1 : Blk w1 w.heap.size nodeZs 25 := HP0.out.more b1
    have B1 := HB0.out.trans (b1.mono (by omega))
    have hRz : w.heap.size < w1.heap.size := P1.lt
    have hTA : TokensAt (holes w1 [w.heap.size]) p l := hTk _ (fun b hb _ => holes_ne w1 _ b (by simp; omega))
    have HB1 := Lib.hid B1
    have HP1 := Lib.hid P1
    have HTA := Lib.hid hTA
    clear P1 B1 b1 hTA hTk HP0 HB0 cT
    have cN := bo_new (X := [w.heap.size]) w1 (fun k hk => by simp at hk; omega)
    go_wp2_with fail
    refine cN.mono ?_
    rintro e w2 ⟨rfl, I2, b2⟩
    have HI2 := Lib.hid I2
    clear cN I2
    obtain ⟨R, hR⟩ : ∃ R, R = w.heap.size := ⟨_, rfl⟩
    go_wp2
    go_loopw [26] (fun q wr => ∃ (i : Nat) (m : Mac) (a : Nat × Nat) (ads : List (Nat × Nat)), q = .int .i64 i ∧ i ≤ l.length ∧ runM mac0 l = runM m (l.drop i) ∧ Bnd m (2 * i) ∧ m.data.length ≤ i * 1600200004 ∧ Bui [w.heap.size] wr w1.heap.size w1.heap.size m (a :: ads) ∧ Below w1.heap.size w1 wr) (fun q _ => l.length - (intOf q).toNat)
    case atStart => exact ⟨0, mac0, _, _, rfl, Nat.zero_le _, rfl, ⟨Nat.zero_le _, (fun f (hf : f ∈ ([] : List NodeD)) => by cases hf), Nat.zero_le _⟩, Nat.zero_le _, HI2.out, b2⟩
    case round =>
      obtain ⟨i, m, a, ads, rfl, hi, hrun, hbd, hda, hI, hb⟩ := hrel
      have hrd := hI.reads
      by_cases hlt : i < l.length
      · have hiz : (i : Int) < (l.length : Int) := by omega
        have hi0 : (0 : Int) ≤ (i : Int) := by omega
        obtain ⟨ad, q, cq, rfl, ⟨a0, a1, a2, a3, a4, a5⟩, hA⟩ := HTA.out i hlt
        have hkey : ∀ x v, (holes w1 [w.heap.size]).cell? x = some v → wr.cell? x = some v := fun x v h => (hb.cell (kblock_lt (holes_cell h).1)).trans (holes_cell h).1
        replace a0 := hkey _ _ a0
        replace a1 := hkey _ _ a1
        replace a2 := hkey _ _ a2
        replace a3 := hkey _ _ a3
        replace a4 := hkey _ _ a4
        replace a5 := hkey _ _ a5
        have htx := (HTX.out l[i] (List.getElem_mem _)).1
        have hM := HM.out
        have HTX4 := Lib.hid (show (l[i]).tx.length ≤ 1600200004 by omega)
        rw [runM_drop m l i hlt] at hrun
        have hbd2 := hbd.add l[i]
        have hda2 := add_data m l[i]
        obtain ⟨t, ht⟩ : ∃ t, l[i] = t := ⟨_, rfl⟩
        rw [ht] at a0 a1 a2 a3 a4 a5 hA htx hrun hbd2 hda2 HTX4
        obtain ⟨cc, hcc⟩ : ∃ cc, ad.add (i * 6) = cc := ⟨_, rfl⟩
        rw [hcc] at a0 a1 a2 a3 a4 a5
        simp only [Addr.add, Nat.reduceEqDiff, ↓reduceIte] at a1 a2 a3 a4 a5
        obtain ⟨Wt, hWt⟩ : ∃ Wt, Wt = wr.alloc (.cells #[.int .i64 t.kind, .string (ofBytes t.nm), .slice q t.al.length cq, .bool t.em, .string (ofBytes t.tx), .int .i64 t.at'] 64) := ⟨_, rfl⟩
        have Pt : Blk Wt wr.heap.size #[.int .i64 t.kind, .string (ofBytes t.nm), .slice q t.al.length cq, .bool t.em, .string (ofBytes t.tx), .int .i64 t.at'] 64 := by rw [hWt]; exact Blk.new wr _ _
        have Bt : Below wr.heap.size wr Wt := by rw [hWt]; exact (Below.refl _ _).alloc (Nat.le_refl _) _
        have hzr := hb.size
        have hBt := hb.trans (Bt.mono hzr)
        have hIF : BuiF [w.heap.size] wr.heap.size Wt w1.heap.size w1.heap.size m (a :: ads) := by
          obtain ⟨v0, vo, vd, pp, xs, hJ⟩ := hI
          exact ⟨Pt.lt, v0, vo, vd, pp, xs, hJ.more Bt, fun e => by have := (hJ.apart.2.2.2.2 _ e).2; omega⟩
        have hup := hrd.2.2.2.1
        have hk1 := hbd.1
        have hu1 := hbd.2.2
        have cA := bo_add w1.heap.size w1.heap.size m a ads t q cq wr.heap.size w1 Wt hIF (by omega) (by omega) (by have := Bt.size; omega) hA (Nat.le_refl _) hBt (by omega) (by omega)
        have t0 := Pt.cell 0
        have HB := Lib.hid hBt
        have HPt := Lib.hid Pt
        have HBD := Lib.hid hbd2
        have HDA := Lib.hid hda2
        have HDB := Lib.hid hda
        have hzt := Pt.lt
        have HRUN := Lib.hid hrun
        have e5 : Wt.cell? ⟨wr.heap.size, 5, none⟩ = some (.int .i64 t.at') := Pt.cell 5
        clear hI hIF hrd hbd hda hbd2 hda2 hM htx Pt Bt hBt hb hA hrun hkey hup hk1 hu1 t0
        generalize (addM m t).2 = e2 at cA HRUN
        generalize (addM m t).1 = m2 at cA HRUN HBD HDA
        rw [hWt] at cA e5 HB hzt
        clear HPt hWt
        by_cases he2 : e2 = 0
        · go_wp2_with fail
          refine cA.mono ?_
          rintro e w4 ⟨rfl, ⟨b, bds, I4⟩, b4, hh4⟩
          subst he2
          have HR := Lib.hid ((HRUN.out).trans (if_neg (by decide)))
          have HI4 := Lib.hid I4
          clear I4 hh4
          go_wp2
          go_roundw
          case rel => exact ⟨i + 1, m2, b, bds, by go_num, by omega, HR.out, HBD.out.more (by omega), by have := HDA.out; have := HDB.out; have := HTX4.out; omega, HI4.out, HB.out.trans b4⟩
          case measure => simp [intOf]; omega
        · have heb : (e2 != 0) = true := by simpa using he2
          have HR := Lib.hid ((HRUN.out).trans (if_pos he2))
          go_wp2_with fail
          refine cA.mono ?_
          rintro e w4 ⟨rfl, -, b4, hh4⟩
          have d5 : w4.cell? ⟨wr.heap.size, 5, none⟩ = some (.int .i64 t.at') := (World.cell?_of_block hh4).trans e5
          have hne1 : wr.heap.size ≠ w.heap.size := by omega
          have hne2 : w.heap.size ≠ wr.heap.size := by omega
          have B4 := HB.out.trans b4
          have PE : Blk w4 w.heap.size nodeZs 25 := HP1.out.more B4
          obtain ⟨⟨r0, r1, r2, r3, r4, r5, r6⟩, g0, g1, g2, g3, g4, g5, g6⟩ := PE.seven
          have HB4 := Lib.hid (HB1.out.trans (B4.mono (by omega)))
          clear PE B4 b4 hh4
          have hpe : parseP s = (zeroN, t.at', e2) := by rw [HE.out, HR.out]; exact if_pos he2
          have HPE := Lib.hid hpe
          clear hpe
          generalize hq : w.heap.size = hs' at r0 r1 r2 r3 r4 r5 r6 g0 g1 g2 g3 g4 g5 g6 hne1 hne2 ⊢
          have HQ := Lib.hid hq
          clear hq
          go_wp2
          go_region
          all_goals
            go_wp2
            exact bodyPost_ret (v := .tuple #[zeroV, .int .i64 t.at', .int .i64 e2]) (by simp [results, Tryz.results9, go_sem, cell_set_same, r0, r1, r2, r3, r4, r5, r6, zeroV]) rfl (by rw [HPE.out]; exact ⟨zeroV, rfl, zero_is _, fresh_keep HB4.out (sevK _ _ _ _ _ _ _ _ _).drew HQ.out⟩)
      · obtain rfl : i = l.length := by omega
        rw [List.drop_eq_nil_of_le (Nat.le_refl _), runM] at hrun
        have hpe0 := HE.out
        rw [hrun] at hpe0
        replace hpe0 := hpe0.trans (if_neg (by simp))
        simp only at hpe0
        obtain ⟨⟨g, cap, h7, hg⟩, _, ⟨A4, n4, C4, hn4, h4⟩, hup, hap, _, hpl, _⟩ := hrd
        have cO := fun wx h1 => bo_outside w1.heap.size (ads.length + 1) (some ⟨g, 0, none⟩) cap wx h1
        by_cases hu : m.up = []
        · rw [hu] at hup
          rw [show decide (ads.length + 1 = 1) = true by simp [hup]] at cO
          rw [hap hu] at h4
          have h4' : wr.cell? ⟨w1.heap.size, 4, none⟩ = some (.slice A4 n4 C4) := h4
          have cH := bo_hasRoot w1.heap.size n4 A4 C4 wr h4'
          rcases hk : m.top.kids with _ | ⟨k, r⟩
          · have hpe : parseP s = (zeroN, (s.size : Int), 8) := by rw [hpe0, hu, hk]
            rw [show decide (0 < n4) = false by rw [hn4, hk]; rfl] at cH
            have HPE := Lib.hid hpe
            clear hpe hpe0 hk
            have PE : Blk wr w.heap.size nodeZs 25 := HP1.out.more hb
            obtain ⟨⟨r0, r1, r2, r3, r4, r5, r6⟩, g0, g1, g2, g3, g4, g5, g6⟩ := PE.seven
            have HBE := Lib.hid (HB1.out.trans (hb.mono (by omega)))
            clear PE hb hI hrun hap hup hbd hda h4 hn4 hu
            generalize hq : w.heap.size = hs' at r0 r1 r2 r3 r4 r5 r6 g0 g1 g2 g3 g4 g5 g6 ⊢
            have HQ := Lib.hid hq
            clear hq
            go_wp2_with (first | (go_at_call 28; refine (cO _ h7).mono ?_; rintro e w4 ⟨rfl, rfl⟩) | (go_at_call 29; refine cH.mono ?_; rintro e w4 ⟨rfl, rfl⟩))
            exact bodyPost_ret (v := .tuple #[zeroV, .int .i64 s.size, .int .i64 8]) (by simp [results, Tryz.results9, go_sem, cell_set_same, r0, r1, r2, r3, r4, r5, r6, zeroV]) rfl (by rw [HPE.out]; exact ⟨zeroV, rfl, zero_is _, fresh_keep HBE.out (sevK _ _ _ _ _ _ _ _ _) HQ.out⟩)
          · have hpe : parseP s = (k, (s.size : Int), 0) := by rw [hpe0, hu, hk]
            rw [show decide (0 < n4) = true by rw [hn4, hk]; simp] at cH
            have HPE := Lib.hid hpe
            obtain ⟨v0, vo, vd, pp, xs, hJ⟩ := hI
            obtain ⟨g5, cap5, pa, ca, pk, ck, k4, h77, hnode⟩ := hJ.done hu hk
            have cRt := bo_root w1.heap.size m.top.kids.length g5 cap5 k.kind k.sp k.nm pa k.al.length ca pk k.kids.length ck k.tx k.at' wr k4 (by rw [hk]; simp) h77
            have PE : Blk wr w.heap.size nodeZs 25 := HP1.out.more hb
            have HPW := Lib.hid PE
            have HBE := Lib.hid (HB1.out.trans (hb.mono (by omega)))
            have HN := Lib.hid hnode
            clear PE hb hJ hrun hap hup hbd hda h4 hn4 hu hpe hpe0 hk hnode
            go_wp2_with (first | (go_at_call 28; refine (cO _ h7).mono ?_; rintro e w4 ⟨rfl, rfl⟩) | (go_at_call 29; refine cH.mono ?_; rintro e w4 ⟨rfl, rfl⟩))
            refine cRt.mono ?_
            rintro e w5 ⟨rfl, b5⟩
            have P5 := HPW.out.more b5
            obtain ⟨⟨r0, r1, r2, r3, r4, r5, r6⟩, g0, g1, g2, g3, g4, g5', g6⟩ := P5.seven
            have B5 := HBE.out.trans (b5.mono (by have := HBE.out.size; omega))
            have HB5 := Lib.hid B5
            have Hb5 := Lib.hid b5
            clear P5 B5 b5
            generalize hq : w.heap.size = hs' at r0 r1 r2 r3 r4 r5 r6 g0 g1 g2 g3 g4 g5' g6 ⊢
            have HQ := Lib.hid hq
            clear hq
            go_wp2
            exact bodyPost_ret (v := .tuple #[.agg #[.int .i64 k.kind, .string k.sp, .string k.nm, .slice pa k.al.length ca, .slice pk k.kids.length ck, .string k.tx, .int .i64 k.at'], .int .i64 s.size, .int .i64 0]) (by simp [results, Tryz.results9, go_sem, cell_set_same, r0, r1, r2, r3, r4, r5, r6]) rfl (by rw [HPE.out]; exact ⟨_, rfl, (HN.out.go ((Goes.below Hb5.out).trans (Goes.keep (sevK hs' _ _ _ _ _ _ _ _) (List.mem_append_right _ (by rw [← HQ.out]; simp))) Hb5.out.size)).full, fresh_keep HB5.out (sevK _ _ _ _ _ _ _ _ _) HQ.out⟩)
        · rw [show decide (ads.length + 1 = 1) = false by simp; intro e; rw [e] at hup; exact hu (List.length_eq_zero_iff.1 hup.symm)] at cO
          have hpe : parseP s = (zeroN, (s.size : Int), 8) := by
            rw [hpe0]
            cases hm : m.up with
            | nil => exact absurd hm hu
            | cons f r => rfl
          have HPE := Lib.hid hpe
          clear hpe hpe0
          have PE : Blk wr w.heap.size nodeZs 25 := HP1.out.more hb
          obtain ⟨⟨r0, r1, r2, r3, r4, r5, r6⟩, g0, g1, g2, g3, g4, g5, g6⟩ := PE.seven
          have HBE := Lib.hid (HB1.out.trans (hb.mono (by omega)))
          clear PE hb hI hrun hap hup hbd hda h4 hn4 hu
          generalize hq : w.heap.size = hs' at r0 r1 r2 r3 r4 r5 r6 g0 g1 g2 g3 g4 g5 g6 ⊢
          have HQ := Lib.hid hq
          clear hq
          go_wp2_with (first | (go_at_call 28; refine (cO _ h7).mono ?_; rintro e w4 ⟨rfl, rfl⟩))
          exact bodyPost_ret (v := .tuple #[zeroV, .int .i64 s.size, .int .i64 8]) (by simp [results, Tryz.results9, go_sem, cell_set_same, r0, r1, r2, r3, r4, r5, r6, zeroV]) rfl (by rw [HPE.out]; exact ⟨zeroV, rfl, zero_is _, fresh_keep HBE.out (sevK _ _ _ _ _ _ _ _ _) HQ.out⟩)
  · rw [if_pos hx2] at hE
    rw [hE]
    have hxb : (x2 != 0) = true := by simpa using hx2
    go_enter Tryz.func9, Tryz.ntmps9
    go_upto_region 1 with fail
    simp only [nodeZs] at hW0
    simp only [← hW0]
    clear hW0
    go_wp2_with fail
    refine cT.mono ?_
    rintro e w1 ⟨p, c, rfl, -, b1⟩
    have PE : Blk w1 w.heap.size nodeZs 25 := HP0.out.more b1
    obtain ⟨⟨r0, r1, r2, r3, r4, r5, r6⟩, g0, g1, g2, g3, g4, g5, g6⟩ := PE.seven
    have B1 := HB0.out.trans (b1.mono (by omega))
    have HB1 := Lib.hid B1
    clear PE B1 b1
    generalize hq : w.heap.size = hs' at r0 r1 r2 r3 r4 r5 r6 g0 g1 g2 g3 g4 g5 g6 ⊢
    have HQ := Lib.hid hq
    clear hq
    go_wp2
    exact bodyPost_ret (v := .tuple #[zeroV, .int .i64 x1, .int .i64 x2]) (by simp [results, Tryz.results9, go_sem, cell_set_same, r0, r1, r2, r3, r4, r5, r6, zeroV]) rfl ⟨zeroV, rfl, zero_is _, fresh_keep HB1.out (sevK _ _ _ _ _ _ _ _ _) HQ.out⟩
end Go.Proofs.YtppmoeidgefkpaaGreatDoor
end
