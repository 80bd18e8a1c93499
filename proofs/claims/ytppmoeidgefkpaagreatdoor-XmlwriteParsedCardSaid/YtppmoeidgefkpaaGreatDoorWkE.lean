/- Packed from the texts BuiE BuiF BuiG BuiH BuiI BuiJ BuiK BuiL BuiM TreY. -/
import Derived.Test.YtppmoeidgefkpaaGreatDoorWTextE
import Derived.Test.YtppmoeidgefkpaaGreatDoorWkD
import Derived.Deep.RegionWith
import Derived.BigRegion
set_option maxRecDepth 100000
namespace Go.Proofs.YtppmoeidgefkpaaGreatDoor
section
open Go.RowKit
theorem rowF_froze {w : World} {B g n cap : Nat} {e : TypeId} {xs : List Value} (h : w.ownsRowF B e 1 (.slice (some ⟨g, 0, none⟩) n cap) n xs) : (w.freeze ⟨g, 0, none⟩ n).ownsRowF B e 1 (.slice (some ⟨g, 0, none⟩) n cap) n xs := by
 obtain ⟨hl, h2⟩ := h
 refine ⟨hl, ?_⟩
 rcases h2 with ⟨hv, _⟩ | ⟨g', cap', cur, fz, hv, hbg, hg, hfz, rest⟩
 ·cases hv
 ·cases hv
  right
  unfold World.freeze
  split
  ·exact ⟨g, cap, cur, fz, rfl, hbg, hg, hfz, rest⟩
  ·obtain ⟨lo, hi⟩ := fz
   simp only at hfz
   refine ⟨g, cap, cur, (if lo == hi then (0, 0 + n) else (min lo 0, max hi (0 + n))), rfl, hbg, ?_, ?_, rest⟩
   ·simp [Array.getElem?_modify, hg]
   ·split
    ·simp
    ·simp only
     omega
theorem freeze_ne (w : World) (g n k : Nat) (h : k ≠ g) : (w.freeze ⟨g, 0, none⟩ n).heap[k]? = w.heap[k]? := by
 unfold World.freeze
 split
 ·rfl
 ·simp [Array.getElem?_modify, Ne.symm h]
theorem chg_freeze (pb : Nat) (w : World) (g n cap : Nat) : Chg pb (.slice (some ⟨g, 0, none⟩) n cap) (.slice (some ⟨g, 0, none⟩) n cap) w (w.freeze ⟨g, 0, none⟩ n) := by
 have hb : Below g w (w.freeze ⟨g, 0, none⟩ n) := Lib.below_freeze (Below.refl g w) (p := ⟨g, 0, none⟩) (Nat.le_refl _) n
 exact ⟨hb.os, hb.tape, hb.output, hb.size, fun k _ _ h2 => freeze_ne w g n k (fun e => h2 (by rw [e]; rfl)), fun k hk => .inl hk⟩
theorem drew_freeze (w : World) (p : Addr) (n : Nat) : w.drew.freeze p n = (w.freeze p n).drewN 1 := by
 unfold World.freeze
 split <;> rfl
theorem bf_t98 : Tryz.prog.cellsOf 5 = 1 := by kernel_rfl
set_option maxHeartbeats 2000000 in
theorem bf_String (pb g cap : Nat) (l : List UInt8) (B : Nat) (w : World) (hp : w.cell? ⟨pb, 9, none⟩ = some (.slice (some ⟨g, 0, none⟩) l.length cap)) (hv : w.ownsRowF B 5 1 (.slice (some ⟨g, 0, none⟩) l.length cap) l.length (Lib.byteCells l)) (h0 : l ≠ []) :
  Calls Tryz.prog 24 #[.pointer (some ⟨pb, 8, none⟩)] w fun e w' => e = .returned (.string (oB l)) ∧ ∃ k, w' = (w.freeze ⟨g, 0, none⟩ l.length).drewN k := by
 have hl0 : l.length ≠ 0 := by simpa using h0
 obtain ⟨cur, fz, hg, hfz, hnc, hcm, hcs, htake⟩ : ∃ cur fz, w.heap[g]? = some (.cells cur 5 fz) ∧ fz.2 ≤ l.length * 1 ∧ l.length ≤ cap ∧ cap ≤ maxLen ∧ cur.size = cap * 1 ∧ cur.toList.take (l.length * 1) = Lib.byteCells l := by
  rcases hv.2 with ⟨hh, _⟩ | ⟨g', cap', cur, fz, hh, _, r⟩
  ·cases hh
  ·cases hh
   exact ⟨cur, fz, r⟩
 have c1 : w.drew.cell? ⟨pb, 9, none⟩ = some (.slice (some ⟨g, 0, none⟩) l.length cap) := hp
 have hSD : (Builtin.unsafeSliceData_ #[44] 80 #[.slice (some ⟨g, 0, none⟩) l.length cap]).run Tryz.prog w.drew = .ok (.pointer (some ⟨g, 0, none⟩)) w.drew :=
  Lib.run_unsafeSliceData_row _ _ _ _ _ _ (by omega)
 have hUS : (Builtin.unsafeString_ #[80, 3] 9 #[.pointer (some ⟨g, 0, none⟩), .int .i64 l.length]).run Tryz.prog w.drew = .ok (.string ⟨l.toArray⟩) (w.drew.freeze ⟨g, 0, none⟩ l.length) := by
  refine Lib.run_unsafeString_row w.drew 80 3 9 5 Tryz.underlying80 bf_t98 g cur.size (by have hg' : w.drew.heap[g]? = some (.cells cur 5 fz) := hg; simp [World.shape?, hg']) l h0 (by omega) (by unfold maxLen at hcm; omega) ?_
  intro j x hx
  exact hv.cells (g := g) rfl j (.int .u8 x.toNat) (by simp [Lib.byteCells, hx])
 clear hv hg htake
 go_enter Tryz.func24, Tryz.ntmps24
 go_wp2
 go_region
 all_goals
  go_wp2
  go_ret
  exact ⟨rfl, 1, drew_freeze w _ _⟩
theorem bf_Reset (pb : Nat) (c0 c1 c2 c3 c4 c5 c6 vo p vd d : Value) (w : World) (hb : Blk w pb #[c0, c1, c2, c3, c4, c5, c6, vo, p, vd, d] 89) :
  Calls Tryz.prog 94 #[.pointer (some ⟨pb, 8, none⟩)] w fun e w' => e = .returned (.tuple #[]) ∧ Blk w' pb #[c0, c1, c2, c3, c4, c5, c6, vo, .pointer none, .slice none 0 0, d] 89 ∧ Keep pb w w' := by
 have q8 := hb.cell 8
 have q9 := hb.cell 9
 have f8 := hb.fr 8
 have f9 := hb.fr 9
 have HB := Lib.hid hb
 clear hb
 go_enter Tryz.func94, Tryz.ntmps94
 go_wp2
 go_end0
 exact ⟨rfl, (HB.out.set 8 _).set 9 _, ((Keep.refl pb w).set 8 _).set 9 _⟩
end
section
open Go.RowKit
variable {X : List Nat}
def Bui (X : List Nat) (w : World) (B pb : Nat) (m : Mac) (ads : List (Nat × Nat)) : Prop := ∃ v0 vo vd p xs, BI X w B pb m ads v0 vo vd p xs
theorem BI.froze {w : World} {B pb g cap : Nat} {m : Mac} {ads : List (Nat × Nat)} {v0 vo p : Value} {xs : List Value} (h : BI X w B pb m ads v0 vo (.slice (some ⟨g, 0, none⟩) m.data.length cap) p xs) : BI X (w.freeze ⟨g, 0, none⟩ m.data.length) B pb m ads v0 vo (.slice (some ⟨g, 0, none⟩) m.data.length cap) p xs := by
 obtain ⟨c0, c1, c2, c3, c4, c5, c6, hp⟩ := h.bp
 have hgp : pb ≠ g := fun e => h.apart.2.2.1 (by rw [e]; rfl)
 exact h.chars hp (chg_freeze pb w g _ cap) ((freeze_ne w g _ pb hgp).trans hp.blk) hp.addr (rowF_froze hp.chars)
theorem BI.reset {w w' : World} {B pb : Nat} {m : Mac} {ads : List (Nat × Nat)} {v0 vo vd p : Value} {xs : List Value} (h : BI X w B pb m ads v0 vo vd p xs) {c0 c1 c2 c3 c4 c5 c6 : Value} (hp : BP w B pb ads m.data m.dat vo vd p c0 c1 c2 c3 c4 c5 c6) (hb : Blk w' pb #[c0, c1, c2, c3, c4, c5, c6, vo, .pointer none, .slice none 0 0, .int .i64 m.dat] 89) (hk : Keep pb w w') : BI X w' B pb { m with data := [] } ads v0 vo (.slice none 0 0) (.pointer none) xs :=
 h.chars hp ⟨hk.os, hk.tape, hk.output, hk.size, fun k h1 h2 _ => hk.block k h1 h2, fun k e => by cases e⟩ hb (.inl rfl) ⟨by simp [Lib.byteCells], .inl ⟨rfl, rfl⟩⟩
theorem charK_is (w : World) (l : List UInt8) (a : Int) : NodeIs w (charK l a) (.agg #[.int .i64 1, .string ⟨#[]⟩, .string ⟨#[]⟩, .slice none 0 0, .slice none 0 0, .string (oB l), .int .i64 a]) := by
 rw [charK, NodeIs]
 exact ⟨none, 0, none, 0, rfl, fun i h => absurd h (Nat.not_lt_zero _), by rw [KidsAt]; trivial⟩
theorem BI.c10 {w : World} {B pb : Nat} {m : Mac} {ads : List (Nat × Nat)} {v0 vo vd p : Value} {xs : List Value} (h : BI X w B pb m ads v0 vo vd p xs) : w.cell? ⟨pb, 10, none⟩ = some (.int .i64 m.dat) ∧ w.cell? ⟨pb, 9, none⟩ = some vd ∧ w.cell? ⟨pb, 7, none⟩ = some vo ∧ w.frozen? ⟨pb, 10, none⟩ = false ∧ w.frozen? ⟨pb, 7, none⟩ = false := by
 obtain ⟨c0, c1, c2, c3, c4, c5, c6, hp⟩ := h.bp
 exact ⟨hp.blk.cell 10, hp.blk.cell 9, hp.blk.cell 7, hp.blk.fr 10, hp.blk.fr 7⟩
theorem Keep.belowB {pb B : Nat} {w w' : World} (h : Keep pb w w') (hB : B ≤ pb) (hz : B ≤ w.heap.size) : Below B w w' := ⟨h.os, h.tape, h.output, h.size, fun k hk => h.block k (by omega) (by omega)⟩
set_option maxHeartbeats 4000000 in
theorem bo_endData (B pb : Nat) (m : Mac) (a : Nat × Nat) (ads : List (Nat × Nat)) (v0 vo vd p : Value) (xs : List Value) (w : World) (hI : BI X w B pb m (a :: ads) v0 vo vd p xs) (hn : m.top.kids.length ≤ 1000000000) (ha : ads.length ≤ 1000000) (hB : B ≤ w.heap.size) :
  Calls Tryz.prog 67 #[.pointer (some ⟨pb, 0, none⟩)] w fun e w' => e = .returned (.tuple #[]) ∧ (∃ v0' vo' vd' p' xs', BI X w' B pb (flushM m) (a :: ads) v0' vo' vd' p' xs' ∧ Goes w (live (a :: ads) v0 vo vd) w' (live (a :: ads) v0' vo' vd')) ∧ Below B w w' := by
 obtain ⟨c10, c9, _, _⟩ := hI.c10
 obtain ⟨c0, c1, c2, c3, c4, c5, c6, hp⟩ := hI.bp
 obtain ⟨A, cap, rfl⟩ := rowF_val hp.chars
 have hlow := hp.low
 have cL := bf_Len pb m.data.length A cap w c9
 by_cases hd : m.data = []
 ·have hfl : flushM m = m := by unfold flushM; rw [if_pos hd]
  rw [hfl]
  have h0 : ¬ (0 : Int) < (m.data.length : Int) := by rw [hd]; simp
  have HI := Lib.hid hI
  clear hI hp hd hfl
  go_enter Tryz.func67, Tryz.ntmps67
  go_wp2_with fail
  refine cL.mono ?_
  rintro e w1 ⟨rfl, rfl⟩
  go_wp2
  go_end0
  exact ⟨rfl, ⟨_, _, _, _, _, HI.out, Goes.refl _ _⟩, Below.refl _ _⟩
 ·have hfl : flushM m = { m with top := addKid (charK m.data m.dat) m.top, data := [] } := by unfold flushM; rw [if_neg hd]
  rw [hfl]
  have hl0 : 0 < m.data.length := List.length_pos_iff.2 hd
  have h0 : (0 : Int) < (m.data.length : Int) := by omega
  obtain ⟨g, rfl⟩ : ∃ g, A = some ⟨g, 0, none⟩ := by
   rcases hp.chars.2 with ⟨_, hz⟩ | ⟨g, cap', cur, fz, hv, _⟩
   ·omega
   ·cases hv; exact ⟨g, rfl⟩
  have cS := bf_String pb g cap m.data B w.drew c9 hp.chars hd
  have I1 := (hI.more (Below.drew (Below.refl w.heap.size w))).froze
  have c10d : w.drew.cell? ⟨pb, 10, none⟩ = some (.int .i64 m.dat) := c10
  have hvB := (rowF_kind hp.chars g rfl).1
  have cS' : Calls Tryz.prog 24 #[.pointer (some ⟨pb, 8, none⟩)] w.drew fun e w' => e = .returned (.string (oB m.data)) ∧ BI X w' B pb m (a :: ads) v0 vo (.slice (some ⟨g, 0, none⟩) m.data.length cap) p xs ∧ Goes w (live (a :: ads) v0 vo (.slice (some ⟨g, 0, none⟩) m.data.length cap)) w' (live (a :: ads) v0 vo (.slice (some ⟨g, 0, none⟩) m.data.length cap)) ∧ Below B w w' := cS.mono (fun e w' ⟨h1, kk, h2⟩ => ⟨h1, h2 ▸ I1.more (below_drewN (Below.refl _ _) _), fun k hk hn => ⟨hn, by rw [h2]; exact freeze_ne w.drew g _ k (fun e => hn (e ▸ mem_live.2 (.inr (.inr (.inr rfl)))))⟩, h2 ▸ below_drewN (Lib.below_freeze (Below.drew (Below.refl B w)) (p := ⟨g, 0, none⟩) hvB _) _⟩)
  have cP : ∀ wx, _ → _ := fun wx (h : BI X wx B pb m (a :: ads) v0 vo (.slice (some ⟨g, 0, none⟩) m.data.length cap) p xs) hBx => bo_put B pb m a ads v0 vo _ p xs (charK m.data m.dat) 1 ⟨#[]⟩ ⟨#[]⟩ none 0 0 none 0 0 (oB m.data) m.dat wx h (charK_is _ _ _) hn ha hBx
  clear hI hp hd hfl c9 cS I1 hvB
  go_enter Tryz.func67, Tryz.ntmps67
  go_wp2_with fail
  refine cL.mono ?_
  rintro e w1 ⟨rfl, rfl⟩
  go_wp2_with fail
  go_region_held3 (fun w' => w'.cell? ⟨pb, 10, none⟩ = some (.int .i64 m.dat)) (first | with_reducible exact c10f | with_reducible exact c10e | with_reducible exact c10d | with_reducible exact c10) (first | (go_at_call 24; refine cS'.mono ?_; rintro e w5 ⟨rfl, I5, gg5, b5⟩; have c10e : w5.cell? ⟨pb, 10, none⟩ = some (.int .i64 m.dat) := I5.c10.1) | (go_at_call 68; refine (cP _ I5 (by have := b5.size; omega)).mono ?_; rintro e w6 ⟨g6, cap6, rfl, I6, k6, gg6, b6⟩; have c10f : w6.cell? ⟨pb, 10, none⟩ = some (.int .i64 m.dat) := I6.c10.1))
  all_goals
   obtain ⟨c0', c1', c2', c3', c4', c5', c6', hp6⟩ := I6.bp
   have cR := bf_Reset pb c0' c1' c2' c3' c4' c5' c6' vo p _ _ w6 hp6.blk
   go_wp2_with fail
   refine cR.mono ?_
   rintro e w7 ⟨rfl, hb7, k7⟩
   go_wp2
   go_end0
   have z6 := (b5.trans b6).size
   exact ⟨rfl, ⟨_, _, _, _, _, I6.reset hp6 hb7 k7, ((gg5.trans gg6 b5.size).trans (Goes.keep k7 (mem_live.2 (.inl I6.pbin))) z6).trans (Goes.less (fun k hk => by rcases mem_live.1 hk with x | x | x | x; exact mem_live.2 (.inl x); exact mem_live.2 (.inr (.inl x)); exact mem_live.2 (.inr (.inr (.inl x))); cases x)) (by have := k7.size; omega)⟩, (b5.trans b6).trans (k7.belowB hlow (by omega))⟩
end
section
open Go.RowKit
variable {X : List Nat}
def BuiF (X : List Nat) (H : Nat) (w : World) (B pb : Nat) (m : Mac) (ads : List (Nat × Nat)) : Prop := H < w.heap.size ∧ ∃ v0 vo vd p xs, BI X w B pb m ads v0 vo vd p xs ∧ H ∉ live ads v0 vo vd
theorem Bui.more {w w' : World} {B pb : Nat} {m : Mac} {ads : List (Nat × Nat)} (h : Bui X w B pb m ads) (hb : Below w.heap.size w w') : Bui X w' B pb m ads := by
 obtain ⟨v0, vo, vd, p, xs, h⟩ := h
 exact ⟨v0, vo, vd, p, xs, h.more hb⟩
theorem Bui.reads {w : World} {B pb : Nat} {m : Mac} {a : Nat × Nat} {ads : List (Nat × Nat)} (h : Bui X w B pb m (a :: ads)) : (∃ g cap, w.cell? ⟨pb, 7, none⟩ = some (.slice (some ⟨g, 0, none⟩) (ads.length + 1) cap) ∧ w.cell? ⟨g, ads.length, none⟩ = some (.pointer (some ⟨a.1, a.2, none⟩))) ∧ w.cell? ⟨a.1, a.2 + 2, none⟩ = some (.string m.top.nm) ∧ (∃ A n c, n = m.top.kids.length ∧ w.cell? ⟨a.1, a.2 + 4, none⟩ = some (.slice A n c)) ∧ ads.length = m.up.length ∧ (m.up = [] → a = (pb, 0)) ∧ (∃ A c, w.cell? ⟨pb, 9, none⟩ = some (.slice A m.data.length c)) ∧ pb < w.heap.size ∧ B ≤ pb := by
 obtain ⟨v0, vo, vd, p, xs, h⟩ := h
 obtain ⟨g, cap, h7, hg, _⟩ := h.inner
 obtain ⟨a', r, har, pa, ca, ⟨_, _, k2, _, k4, _, _⟩, _⟩ := h.ti.top7
 injection har with e1 e2
 subst e1
 subst e2
 obtain ⟨A, c, hv0⟩ := row_val h.ti.row
 have hu := Up.mem _ _ h.ti.up
 obtain ⟨c0, c1, c2, c3, c4, c5, c6, hp⟩ := h.bp
 obtain ⟨A', c', hvd⟩ := rowF_val hp.chars
 refine ⟨⟨g, cap, h7, hg⟩, k2, ⟨A, _, c, rfl, by rw [k4, hv0]⟩, by have := hu.2; simp at this; exact this, fun e => ?_, ⟨A', c', by rw [h.c10.2.1, hvd]⟩, hp.lt, hp.low⟩
 rcases h.ti.up.head with ⟨h1, h2, _, _⟩ | ⟨_, _, h3⟩
 ·exact Prod.ext h1 h2
 ·exact absurd e h3
theorem Bui.pop {w w' : World} {B pb : Nat} {m : Mac} {a : Nat × Nat} {ads : List (Nat × Nat)} {v0 vo vd p : Value} {xs : List Value} (h : BI X w B pb m (a :: ads) v0 vo vd p xs) (hne : m.up ≠ []) {g cap : Nat} (hvo : vo = .slice (some ⟨g, 0, none⟩) (ads.length + 1) cap)
  (hw : w' = w.setCell ⟨pb, 7, none⟩ (.slice (some ⟨g, 0, none⟩) ads.length cap)) : Bui X w' B pb (popM m) ads := by
 subst hw
 subst hvo
 obtain ⟨f, r, hfr⟩ : ∃ f r, m.up = f :: r := by
  cases hm : m.up with
  | nil => exact absurd hm hne
  | cons f r => exact ⟨f, r, rfl⟩
 have ha := h.apart
 have hnp := h.nopb
 obtain ⟨⟨c0, c1, c2, c3, c4, c5, c6, hp⟩, ht, hlw⟩ := h
 have hup := ht.up
 have hnd := nodes_nodup.1 ht.nodup
 rw [hfr] at ht
 have hpop : popM m = { m with top := addKid m.top f, up := r } := by unfold popM; rw [hfr]
 rw [hpop]
 have hane : a.1 ≠ pb := by
  rcases hup.head with ⟨_, _, _, e⟩ | ⟨e, _, _⟩
  ·exact absurd e hne
  ·exact e
 -- the new live blocks
 have hsub : ∀ v : Value, v.ownBlock = some a.1 → ∀ k, k ∈ live ads v (.slice (some ⟨g, 0, none⟩) ads.length cap) vd → k ∈ live (a :: ads) v0 (.slice (some ⟨g, 0, none⟩) (ads.length + 1) cap) vd := by
  intro v hv k hk
  rcases mem_live.1 hk with x | x | x | x
  ·exact mem_live.2 (.inl (by simp at x ⊢; exact .inr x))
  ·rw [hv] at x
   injection x with x
   exact mem_live.2 (.inl (by simp [x]))
  ·exact mem_live.2 (.inr (.inr (.inl x)))
  ·exact mem_live.2 (.inr (.inr (.inr x)))
 have hL' : ∀ v : Value, v.ownBlock = some a.1 → ∀ g', v0.ownBlock = some g' → g' ∉ live ads v (.slice (some ⟨g, 0, none⟩) ads.length cap) vd := by
  intro v hv g' hg' e
  have hn := hnd.2 g' hg'
  simp only [List.map_cons, List.mem_cons, not_or] at hn
  rcases mem_live.1 e with x | x | x | x
  ·exact hn.2 x
  ·rw [hv] at x
   injection x with x
   exact hn.1 x.symm
  ·exact (ha.1 g' (mem_nodes.2 (.inr hg'))).1 x
  ·exact (ha.1 g' (mem_nodes.2 (.inr hg'))).2 x
 obtain ⟨v1, hv1⟩ : ∃ v1 : Value, v1 = .slice (some ⟨a.1, 0, none⟩) 0 0 := ⟨_, rfl⟩
 have hv1o : v1.ownBlock = some a.1 := by rw [hv1]; rfl
 obtain ⟨v, xs', ht', hvo'⟩ := ht.pop (L' := live ads v1 (.slice (some ⟨g, 0, none⟩) ads.length cap) vd ++ X) (fun k hk => (List.mem_append.1 hk).elim (fun e => List.mem_append_left _ (hsub v1 hv1o k e)) (fun e => List.mem_append_right _ e)) (fun g' hg' e => (List.mem_append.1 e).elim (hL' v1 hv1o g' hg') (fun x => by have := hlw g' x; have := (row_kind ht.row g' hg').1; omega)) (List.mem_append_left _ (mem_live.2 (.inl (by simp))))
 have hlive : live ads v1 (.slice (some ⟨g, 0, none⟩) ads.length cap) vd = live ads v (.slice (some ⟨g, 0, none⟩) ads.length cap) vd := by unfold live nodesL; rw [hv1o, hvo']
 rw [hlive] at ht'
 have hkp : Keep pb w (w.setCell ⟨pb, 7, none⟩ (.slice (some ⟨g, 0, none⟩) ads.length cap)) := (Keep.refl pb w).set 7 _
 have hpin : pb ∈ live ads v (.slice (some ⟨g, 0, none⟩) ads.length cap) vd := by
  obtain ⟨x, hx⟩ := (Up.mem _ _ ht'.up).1
  exact mem_live.2 (.inl (List.mem_map_of_mem (f := Prod.fst) hx))
 have hb2 := hp.blk.set 7 (.slice (some ⟨g, 0, none⟩) ads.length cap)
 have hpk : ∀ k, k ∈ nodesL ads v → k ≠ pb → (w.setCell ⟨pb, 7, none⟩ (.slice (some ⟨g, 0, none⟩) ads.length cap)).heap[k]? = w.heap[k]? := fun k _ hk => Below.heap_setCell _ _ _ _ hk
 refine ⟨v, .slice (some ⟨g, 0, none⟩) ads.length cap, vd, p, xs', ⟨⟨c0, c1, c2, c3, c4, c5, c6, hp.low, hb2, hp.addr, ?_, rowFs hp.chars (fun g' hg' => Below.heap_setCell _ _ _ _ (fun e => ha.2.2.1 (by rw [← show g' = pb from e]; exact hg')))⟩, ?_, hlw⟩⟩
 ·-- the shorter list
  have hro := rowSame (w' := w.setCell ⟨pb, 7, none⟩ (.slice (some ⟨g, 0, none⟩) ads.length cap)) hp.opn (fun g' hg' => Below.heap_setCell _ _ _ _ (fun e => ha.2.1 (by rw [← show g' = pb from e]; exact hg')))
  obtain ⟨hl, h2⟩ := hro
  have hpt : ptrs (a :: ads) = ptrs ads ++ [.pointer (some ⟨a.1, a.2, none⟩)] := by unfold ptrs; simp
  have hpl : (ptrs ads).length = ads.length := by unfold ptrs; simp
  refine ⟨by rw [hpl]; omega, ?_⟩
  rcases h2 with ⟨hv, _⟩ | ⟨g', cap', cur, hv, hb, hh, hnc, hcm, hcs, htk⟩
  ·cases hv
  ·cases hv
   right
   simp only [List.length_cons] at hnc htk
   refine ⟨g, cap, cur, rfl, hb, hh, by omega, hcm, hcs, ?_⟩
   rw [hpt] at htk
   have := congrArg (List.take ads.length) htk
   rw [List.take_take, List.take_append_of_le_length (by omega), List.take_of_length_le (l := ptrs ads) (by omega)] at this
   rw [← this]
   congr 1
   omega
 ·refine ht'.go ((Goes.keep hkp hpin).app X) (fun j hj => cell_set_ne _ _ _ _ _ (by omega)) hpk (fun g' hg' e => ?_)
  rw [hvo'] at hg'
  injection hg' with hg'
  exact hane (hg'.trans e)
end
section
open Go.RowKit
variable {X : List Nat}
set_option maxHeartbeats 4000000 in
theorem bo_end (B pb : Nat) (m : Mac) (a : Nat × Nat) (ads : List (Nat × Nat)) (t : TokD) (q : Option Addr) (c : Nat) (H : Nat) (w : World) (hI : BuiF X H w B pb m (a :: ads)) (hn : m.top.kids.length ≤ 1000000000) (ha : ads.length ≤ 1000000) (hB : B ≤ w.heap.size) :
  Calls Tryz.prog 47 #[.pointer (some ⟨pb, 0, none⟩), .agg #[.int .i64 t.kind, .string (oB t.nm), .slice q t.al.length c, .bool t.em, .string (oB t.tx), .int .i64 t.at']] w fun e w' => e = .returned (.int .i64 (endM m t).2) ∧ (∃ b bds, Bui X w' B pb (endM m t).1 (b :: bds)) ∧ Below B w w' ∧ w'.heap[H]? = w.heap[H]? := by
 obtain ⟨hHz, v0, vo, vd, p, xs, hIB, hHl⟩ := hI
 have hI : Bui X w B pb m (a :: ads) := ⟨_, _, _, _, _, hIB⟩
 obtain ⟨W, hW⟩ : ∃ W, W = w.alloc (.cells #[.int .i64 t.kind, .string (oB t.nm), .slice q t.al.length c, .bool t.em, .string (oB t.tx), .int .i64 t.at'] 64) := ⟨_, rfl⟩
 have P1 : Blk W w.heap.size #[.int .i64 t.kind, .string (oB t.nm), .slice q t.al.length c, .bool t.em, .string (oB t.tx), .int .i64 t.at'] 64 := by rw [hW]; exact Blk.new w _ _
 have B1 : Below w.heap.size w W := by rw [hW]; exact (Below.refl _ _).alloc (Nat.le_refl _) _
 have I1B := hIB.more B1
 have I1 : Bui X W B pb m (a :: ads) := ⟨_, _, _, _, _, I1B⟩
 have hHW := B1.block H hHz
 have hHz1 : H < W.heap.size := by have := B1.size; omega
 have hHpb : H ≠ pb := fun e => hHl (e ▸ mem_live.2 (.inl hIB.pbin))
 have r1 : W.cell? ⟨w.heap.size, 1, none⟩ = some (.string (oB t.nm)) := P1.cell 1
 have hBW : B ≤ W.heap.size := by have := B1.size; omega
 have B1' := B1.mono hB
 obtain ⟨⟨g, cap, h7, hg⟩, hnm, _, hup, _, _, hpl, hlow⟩ := I1.reads
 have cI := fun wx h1 h2 => bo_innermost pb ads.length (ads.length + 1) g cap (.pointer (some ⟨a.1, a.2, none⟩)) wx rfl h1 h2 ha
 have cO := fun wx h1 => bo_outside pb (ads.length + 1) (some ⟨g, 0, none⟩) cap wx h1
 by_cases hu : m.up = []
 ·have he : endM m t = (m, 14) := by unfold endM; rw [if_pos hu]
  rw [he]
  rw [hu] at hup
  rw [show decide (ads.length + 1 = 1) = true by simp [hup]] at cO
  have HI := Lib.hid I1
  have HB := Lib.hid B1'
  clear hI hIB I1B I1 B1 B1' P1 hu he
  go_enter Tryz.func47, Tryz.ntmps47
  go_upto_region 1 with fail
  simp only [← hW]
  clear hW
  go_quiet (first | (go_at_call 28; refine Calls.quiet_of_same (cO _ ?_); exact h7))
  go_wp2
  go_ret
  exact ⟨rfl, ⟨_, _, HI.out.more (below_drewN (Below.refl _ _) _)⟩, below_drewN HB.out _, hHW⟩
 ·rw [show decide (ads.length + 1 = 1) = false by simp; intro e; rw [e] at hup; exact hu (List.length_eq_zero_iff.1 hup.symm)] at cO
  by_cases hne : m.top.nm = oB t.nm
  ·have he : endM m t = (popM (flushM m), 0) := by unfold endM; rw [if_neg hu, if_neg (fun e => e hne)]
   rw [he]
   rw [hne] at hnm
   have HB := Lib.hid B1'
   have HU := Lib.hid hu
   have hnf : (flushM m).up ≠ [] := by rw [flushM_up]; exact hu
   have HF := Lib.hid hnf
   have HI := Lib.hid I1B
   have hN0 : (0 : Int) ≤ (ads.length : Int) := by omega
   have hw1 : IntKind.i64.wrap (((ads.length + 1 : Nat) : Int) - 1) = (ads.length : Int) := by rw [show ((ads.length + 1 : Nat) : Int) - 1 = (ads.length : Int) by omega]; exact wrap_small _ (by omega) (by omega)
   have hw2 : IntKind.i64.wrap ((ads.length : Int) + 1 - 1) = (ads.length : Int) := by rw [show (ads.length : Int) + 1 - 1 = (ads.length : Int) by omega]; exact wrap_small _ (by omega) (by omega)
   generalize oB t.nm = NM at *
   clear hI hIB I1B I1 B1 B1' P1 hu he hnf hne
   go_enter Tryz.func47, Tryz.ntmps47
   go_upto_region 1 with fail
   simp only [← hW]
   clear hW
   go_quiet (first | (go_at_call 28; refine Calls.quiet_of_same (cO _ ?_); exact h7) | (go_at_call 69; refine Calls.quiet_of (cI _ ?_ ?_); exact h7; exact hg))
   have I2 := HI.out.more (below_drewN (Below.refl W.heap.size W) nq)
   have B2 := below_drewN HB.out nq
   have hHW2 : (W.drewN nq).heap[H]? = w.heap[H]? := hHW
   have hHz2 : H < (W.drewN nq).heap.size := hHz1
   generalize W.drewN nq = W2 at I2 B2 hHW2 hHz2 ⊢
   go_wp2_with fail
   refine (bo_endData B pb m a ads v0 vo vd p xs W2 I2 hn ha (by have := B2.size; omega)).mono ?_
   rintro e w3 ⟨rfl, ⟨u0, uo, ud, up', us, J3, gg3⟩, b3⟩
   have hHW3 := (gg3 H hHz2 hHl).2.trans hHW2
   obtain ⟨g3, cap3, k7, _, hvo⟩ := J3.inner
   have f7 := J3.c10.2.2.2.2
   have hc3 : ads.length + 1 ≤ cap3 := by
    obtain ⟨c0, c1, c2, c3, c4, c5, c6, hp⟩ := J3.bp
    rcases hp.opn.2 with ⟨hv, _⟩ | ⟨g', cap', cur, hv, _, _, hnc, _⟩
    ·rw [hvo] at hv; cases hv
    ·rw [hvo] at hv; cases hv; simpa using hnc
   have hc3' : (ads.length : Int) ≤ (cap3 : Int) := by omega
   have hc4 : ads.length ≤ cap3 := by omega
   have HJ := Lib.hid J3
   have B3 := B2.trans b3
   have HB3 := Lib.hid B3
   have hbb : ∃ b bds, ads = b :: bds := by
    cases hads : ads with
    | nil => rw [hads] at hup; exact absurd (List.length_eq_zero_iff.1 hup.symm) HU.out
    | cons b bds => exact ⟨b, bds, rfl⟩
   have HBB := Lib.hid hbb
   clear J3 B3 B2 b3 I2 h7 hg hnm r1 hup hbb
   go_wp2
   go_region
   all_goals
    go_wp2
    go_ret
    have hP := Bui.pop (HJ.out.more (Below.drew (Below.refl _ _))) HF.out hvo rfl
    have hlo : Below B w (w3.drew.setCell ⟨pb, 7, none⟩ (.slice (some ⟨g3, 0, none⟩) ads.length cap3)) := (Below.drew HB3.out).setCell (p := ⟨pb, 7, none⟩) hlow _
    obtain ⟨b, bds, hb⟩ := HBB.out
    rw [hb] at hP hlo ⊢
    exact ⟨rfl, ⟨b, bds, hP⟩, hlo, (Below.heap_setCell _ _ _ _ hHpb).trans hHW3⟩
  ·have he : endM m t = (m, 14) := by unfold endM; rw [if_neg hu, if_pos hne]
   rw [he]
   have HI := Lib.hid I1
   have HB := Lib.hid B1'
   have h5 := str_ne2 hne
   have h6 := str_ne3 hne
   generalize oB t.nm = NM at *
   generalize m.top.nm = TN at *
   clear hI hIB I1B I1 B1 B1' P1 hu he
   go_enter Tryz.func47, Tryz.ntmps47
   go_upto_region 1 with fail
   simp only [← hW]
   clear hW
   go_quiet (first | (go_at_call 28; refine Calls.quiet_of_same (cO _ ?_); exact h7) | (go_at_call 69; refine Calls.quiet_of (cI _ ?_ ?_); exact h7; exact hg))
   go_wp2
   go_ret
   exact ⟨rfl, ⟨_, _, HI.out.more (below_drewN (Below.refl _ _) _)⟩, below_drewN HB.out _, hHW⟩
end
section
open Go.RowKit
variable {X : List Nat}
theorem be_list (l : List UInt8) : (oB l).toList.isEmpty = l.isEmpty := by rw [ByteArray.toList_eq, oBl]
theorem bi_WriteString {w : World} {B pb : Nat} {m : Mac} {ads : List (Nat × Nat)} {v0 vo vd p : Value} {xs : List Value} (h : BI X w B pb m ads v0 vo vd p xs) (s : ByteArray) (hB : B ≤ w.heap.size) (hlen : m.data.length + s.size ≤ 140737488355328) :
  Calls Tryz.prog 20 #[.pointer (some ⟨pb, 8, none⟩), .string s] w fun e w' => e = .returned (.tuple #[.int .i64 s.size, .nilIface]) ∧ Bui X w' B pb { m with data := m.data ++ s.data.toList } ads ∧ Below B w w' ∧ ∀ H, H < w.heap.size → H ∉ live ads v0 vo vd → w'.heap[H]? = w.heap[H]? := by
 obtain ⟨c0, c1, c2, c3, c4, c5, c6, hp⟩ := h.bp
 refine (bf_WriteString B pb c0 c1 c2 c3 c4 c5 c6 vo p vd (.int .i64 m.dat) m.data s w hp.blk hp.addr hp.chars hB hlen).mono ?_
 rintro e w' ⟨rfl, vd', hb, hv, hc⟩
 refine ⟨rfl, ⟨_, _, _, _, _, h.chars hp hc hb (.inr rfl) hv⟩, hc.below hp.low (fun k hk => (rowF_kind hp.chars k hk).1) hB, fun H hH hHl => hc.block H hH (fun e => hHl (e ▸ mem_live.2 (.inl h.pbin))) (fun e => hHl (mem_live.2 (.inr (.inr (.inr e.symm)))))⟩
theorem bi_dataAt {w : World} {B pb : Nat} {m : Mac} {ads : List (Nat × Nat)} {v0 vo vd p : Value} {xs : List Value} (h : BI X w B pb m ads v0 vo vd p xs) (d : Int) : BI X (w.setCell ⟨pb, 10, none⟩ (.int .i64 d)) B pb { m with dat := d } ads v0 vo vd p xs := by
 obtain ⟨c0, c1, c2, c3, c4, c5, c6, hp⟩ := h.bp
 have hk : Keep pb w (w.setCell ⟨pb, 10, none⟩ (.int .i64 d)) := (Keep.refl pb w).set 10 _
 exact h.chars hp ⟨hk.os, hk.tape, hk.output, hk.size, fun k h1 h2 _ => hk.block k h1 h2, fun k e => .inl e⟩ (hp.blk.set 10 _) hp.addr (rowFs hp.chars (fun g hg => Below.heap_setCell _ _ _ _ (fun e => h.apart.2.2.1 (by rw [← show g = pb from e]; exact hg))))
set_option maxHeartbeats 4000000 in
theorem bo_text (B pb : Nat) (m : Mac) (a : Nat × Nat) (ads : List (Nat × Nat)) (t : TokD) (q : Option Addr) (c : Nat) (H : Nat) (w : World) (hI : BuiF X H w B pb m (a :: ads)) (hB : B ≤ w.heap.size) (hd : m.data.length + t.tx.length ≤ 140737488355328) (htx : t.tx.length ≤ 1000000000000) :
  Calls Tryz.prog 48 #[.pointer (some ⟨pb, 0, none⟩), .agg #[.int .i64 t.kind, .string (oB t.nm), .slice q t.al.length c, .bool t.em, .string (oB t.tx), .int .i64 t.at']] w fun e w' => e = .returned (.int .i64 (textM m t).2) ∧ (∃ b bds, Bui X w' B pb (textM m t).1 (b :: bds)) ∧ Below B w w' ∧ w'.heap[H]? = w.heap[H]? := by
 obtain ⟨W, hW⟩ : ∃ W, W = w.alloc (.cells #[.int .i64 t.kind, .string (oB t.nm), .slice q t.al.length c, .bool t.em, .string (oB t.tx), .int .i64 t.at'] 64) := ⟨_, rfl⟩
 have P1 : Blk W w.heap.size #[.int .i64 t.kind, .string (oB t.nm), .slice q t.al.length c, .bool t.em, .string (oB t.tx), .int .i64 t.at'] 64 := by rw [hW]; exact Blk.new w _ _
 have B1 : Below w.heap.size w W := by rw [hW]; exact (Below.refl _ _).alloc (Nat.le_refl _) _
 have r4 : W.cell? ⟨w.heap.size, 4, none⟩ = some (.string (oB t.tx)) := P1.cell 4
 have r5 : W.cell? ⟨w.heap.size, 5, none⟩ = some (.int .i64 t.at') := P1.cell 5
 have hBW : B ≤ W.heap.size := by have := B1.size; omega
 have B1' := B1.mono hB
 have hzW : w.heap.size < W.heap.size := P1.lt
 obtain ⟨hHz, v0, vo, vd, p, xs, hJ, hHl'⟩ := hI
 have hHW := B1.block H hHz
 have hHz1 : H < W.heap.size := by omega
 have hHpb : H ≠ pb := fun e => hHl' (e ▸ mem_live.2 (.inl hJ.pbin))
 have hHl : w.heap.size ∉ live (a :: ads) v0 vo vd := fun e => by have := (hJ.apart.2.2.2.2 _ e).2; omega
 have J1 := hJ.more B1
 have I1 : Bui X W B pb m (a :: ads) := ⟨_, _, _, _, _, J1⟩
 obtain ⟨⟨g, cap, h7, hg⟩, _, _, hup, _, ⟨A9, C9, h9⟩, hpl, hlow⟩ := I1.reads
 have cO := fun wx h1 => bo_outside pb (ads.length + 1) (some ⟨g, 0, none⟩) cap wx h1
 have htz : (oB t.tx).size = t.tx.length := oBz _
 have htl : (oB t.tx).data.toList = t.tx := oBl _
 by_cases hu : m.up = []
 ·rw [hu] at hup
  rw [show decide (ads.length + 1 = 1) = true by simp [hup]] at cO
  have cC := text_Collapse (oB t.tx) W (by omega)
  rw [htl] at cC
  have HI := Lib.hid I1
  have HB := Lib.hid B1'
  by_cases hc : collapse t.tx = []
  ·have he : textM m t = (m, 0) := by unfold textM; rw [if_pos hu, if_pos hc]
   rw [he]
   have hE := be_list (collapse t.tx)
   rw [hc] at cC hE
   rw [show ([] : List UInt8).isEmpty = true from rfl] at hE
   generalize oB [] = CC at *
   clear hJ J1 I1 B1 B1' P1 hu he hup hc hd hHl
   go_enter Tryz.func48, Tryz.ntmps48
   go_upto_region 1 with fail
   simp only [← hW]
   clear hW
   go_wp2_with fail
   refine (cO _ h7).mono ?_
   rintro e w1 ⟨rfl, rfl⟩
   go_wp2_with fail
   refine cC.mono ?_
   rintro e w2 ⟨rfl, b2⟩
   go_wp2
   go_ret
   exact ⟨rfl, ⟨_, _, HI.out.more b2⟩, HB.out.trans (b2.mono hBW), (b2.block H hHz1).trans hHW⟩
  ·have he : textM m t = (m, 7) := by unfold textM; rw [if_pos hu, if_neg hc]
   rw [he]
   have hE := be_list (collapse t.tx)
   rw [show (collapse t.tx).isEmpty = false by cases hh : collapse t.tx with | nil => exact absurd hh hc | cons _ _ => rfl] at hE
   generalize oB (collapse t.tx) = CC at *
   clear hJ J1 I1 B1 B1' P1 hu he hup hc hd hHl
   go_enter Tryz.func48, Tryz.ntmps48
   go_upto_region 1 with fail
   simp only [← hW]
   clear hW
   go_wp2_with fail
   refine (cO _ h7).mono ?_
   rintro e w1 ⟨rfl, rfl⟩
   go_wp2_with fail
   refine cC.mono ?_
   rintro e w2 ⟨rfl, b2⟩
   go_wp2
   go_ret
   exact ⟨rfl, ⟨_, _, HI.out.more b2⟩, HB.out.trans (b2.mono hBW), (b2.block H hHz1).trans hHW⟩
 ·rw [show decide (ads.length + 1 = 1) = false by simp; intro e; rw [e] at hup; exact hu (List.length_eq_zero_iff.1 hup.symm)] at cO
  have cL := bf_Len pb m.data.length A9 C9 W h9
  have cW : ∀ wx mx vdx px, _ → _ := fun wx mx vdx px (h : BI X wx B pb mx (a :: ads) v0 vo vdx px xs) h1 h2 => bi_WriteString h (oB t.tx) h1 h2
  rw [htl] at cW
  have f10 := J1.c10
  have hlv := J1.apart
  by_cases hda : m.data = []
  ·have he : textM m t = ({ m with data := m.data ++ t.tx, dat := t.at' }, 0) := by unfold textM; rw [if_neg hu, if_pos hda]
   rw [he]
   have cL0 : Calls Tryz.prog 71 #[.pointer (some ⟨pb, 8, none⟩)] W fun e w' => e = .returned (.int .i64 0) ∧ w' = W := by rw [hda] at cL; exact cL
   obtain ⟨W2, hW2⟩ : ∃ W2, W2 = W.setCell ⟨pb, 10, none⟩ (.int .i64 t.at') := ⟨_, rfl⟩
   have J2 : BI X W2 B pb { m with dat := t.at' } (a :: ads) v0 vo vd p xs := by rw [hW2]; exact bi_dataAt J1 t.at'
   have hpH : w.heap.size ≠ pb := fun e => hHl (e ▸ mem_live.2 (.inl hJ.pbin))
   have hz2 : W2.heap.size = W.heap.size := by rw [hW2]; simp [World.setCell]
   have s4 : W2.cell? ⟨w.heap.size, 4, none⟩ = some (.string (oB t.tx)) := by rw [hW2, World.cell?_of_block (w := W) (Below.heap_setCell _ _ _ _ hpH)]; exact r4
   have B2 : Below B w W2 := by rw [hW2]; exact B1'.setCell (p := ⟨pb, 10, none⟩) hlow _
   have c2 := cW W2.drew { m with dat := t.at' } vd p (J2.more (Below.drew (Below.refl _ _))) (by show B ≤ W2.heap.size; omega) (by rw [htz]; exact hd)
   have hHW2 : W2.heap[H]? = w.heap[H]? := by rw [hW2]; exact (Below.heap_setCell _ _ _ _ hHpb).trans hHW
   have s4d : W2.drew.cell? ⟨w.heap.size, 4, none⟩ = some (.string (oB t.tx)) := s4
   have k10 := f10.1
   have k10f := f10.2.2.2.1
   rw [hW2] at c2 s4d B2 hHW2 hz2
   have HB := Lib.hid B2
   clear s4 J2
   clear hW2
   have HD := Lib.hid hda
   clear hJ J1 I1 B1 B1' P1 hu he hup hd hda B2 cW f10 hlv cL r4
   go_enter Tryz.func48, Tryz.ntmps48
   go_upto_region 1 with fail
   simp only [← hW]
   clear hW
   go_wp2_with fail
   refine (cO _ h7).mono ?_
   rintro e w1 ⟨rfl, rfl⟩
   go_wp2_with fail
   refine cL0.mono ?_
   rintro e w1' ⟨rfl, rfl⟩
   go_wp2_with fail
   go_region_held3 (fun w' => w'.cell? ⟨w.heap.size, 4, none⟩ = some (.string (oB t.tx))) (first | with_reducible exact s4e | with_reducible exact s4d) ((go_at_call 20; refine c2.mono ?_; rintro e w3 ⟨rfl, I3, b3, hh3⟩; have s4e : w3.cell? ⟨w.heap.size, 4, none⟩ = some (.string (oB t.tx)) := (World.cell?_of_block (hh3 _ (by first | assumption | (show w.heap.size < (World.setCell _ _ _).heap.size; omega)) hHl)).trans s4d))
   all_goals
    go_wp2
    go_ret
    exact ⟨rfl, ⟨_, _, I3⟩, (Below.drew HB.out).trans b3, (hh3 H (by show H < (World.setCell _ _ _).heap.size; omega) hHl').trans hHW2⟩
  ·have he : textM m t = ({ m with data := m.data ++ t.tx }, 0) := by unfold textM; rw [if_neg hu, if_neg hda]
   rw [he]
   have hl0 : m.data.length ≠ 0 := fun e => hda (List.length_eq_zero_iff.1 e)
   have hn0 : ((m.data.length : Int) == 0) = false := by simpa using hl0
   have hn1 : ¬ (m.data.length : Int) = 0 := by omega
   have c2 := cW W.drew m vd p (J1.more (Below.drew (Below.refl _ _))) hBW (by rw [htz]; exact hd)
   have s4d : W.drew.cell? ⟨w.heap.size, 4, none⟩ = some (.string (oB t.tx)) := r4
   have HB := Lib.hid B1'
   clear hJ J1 I1 B1 B1' P1 hu he hup hd cW f10 hlv hda
   go_enter Tryz.func48, Tryz.ntmps48
   go_upto_region 1 with fail
   simp only [← hW]
   clear hW
   go_wp2_with fail
   refine (cO _ h7).mono ?_
   rintro e w1 ⟨rfl, rfl⟩
   go_wp2_with fail
   refine cL.mono ?_
   rintro e w1' ⟨rfl, rfl⟩
   go_wp2_with fail
   go_region_held3 (fun w' => w'.cell? ⟨w.heap.size, 4, none⟩ = some (.string (oB t.tx))) (first | with_reducible exact s4e | with_reducible exact s4d) ((go_at_call 20; refine c2.mono ?_; rintro e w3 ⟨rfl, I3, b3, hh3⟩; have s4e : w3.cell? ⟨w.heap.size, 4, none⟩ = some (.string (oB t.tx)) := (World.cell?_of_block (hh3 _ (by first | assumption | (show w.heap.size < (World.setCell _ _ _).heap.size; omega)) hHl)).trans s4d))
   all_goals
    go_wp2
    go_ret
    exact ⟨rfl, ⟨_, _, I3⟩, (Below.drew HB.out).trans b3, (hh3 H hHz1 hHl').trans hHW⟩
end
section
open Go.RowKit
variable {X : List Nat}
theorem ptrs_cons (a : Nat × Nat) (ads : List (Nat × Nat)) : ptrs (a :: ads) = ptrs ads ++ [.pointer (some ⟨a.1, a.2, none⟩)] := by unfold ptrs; simp
theorem attrs_far {w0 w : World} {q : Option Addr} {al : List AttrD} {L : List Nat} {B : Nat} (h : AttrsAt (holes w0 X) q al) (hB : w0.heap.size ≤ B) (hb : Below w0.heap.size w0 w) (hL : ∀ k ∈ L, B ≤ k) : AttrsAt (holes w (L ++ X)) q al := by
 refine h.mono (fun a v hc => ?_)
 obtain ⟨h1, h2, hlt⟩ := holes_cell hc
 rw [holes_out (fun e => (List.mem_append.1 e).elim (fun x => by have := hL _ x; omega) h2), World.cell?_of_block (hb.block _ hlt)]
 exact h1
theorem elemN_is {w : World} {q : Option Addr} {c : Nat} {t : TokD} (h : AttrsAt w q t.al) : NodeIs w (elemN t []) (.agg #[.int .i64 0, .string ⟨#[]⟩, .string (oB t.nm), .slice q t.al.length c, .slice none 0 0, .string ⟨#[]⟩, .int .i64 t.at']) := by
 rw [elemN, NodeIs]
 exact ⟨q, c, none, 0, rfl, h, by rw [KidsAt]; trivial⟩
theorem Bui.push {w3 w4 : World} {B pb : Nat} {m : Mac} {a : Nat × Nat} {ads : List (Nat × Nat)} {t : TokD} {q : Option Addr} {c g cap g4 cap4 : Nat} {vo vd p : Value} {xs : List Value} {o : Obj}
  (h : BI X w3 B pb { m with top := addKid (elemN t []) m.top } (a :: ads) (.slice (some ⟨g, 0, none⟩) (m.top.kids.length + 1) cap) vo vd p (xs ++ cells7 0 ⟨#[]⟩ (oB t.nm) q t.al.length c none 0 0 ⟨#[]⟩ t.at')) (hk : KRow (holes w3 (live (a :: ads) (.slice (some ⟨g, 0, none⟩) (m.top.kids.length + 1) cap) vo vd ++ X)) m.top.kids xs) (hat : AttrsAt (holes w3 (live (a :: ads) (.slice (some ⟨g, 0, none⟩) (m.top.kids.length + 1) cap) vo vd ++ X)) q t.al)
  (ho : w4.ownsRow B 90 1 (.slice (some ⟨g4, 0, none⟩) ((a :: ads).length + 1) cap4) ((a :: ads).length + 1) (ptrs (a :: ads) ++ [.pointer (some ⟨g, m.top.kids.length * 7, none⟩)])) (hgrow : (w3.alloc o).grownBy w4 vo.ownBlock) (hg4 : vo.ownBlock = some g4 ∨ g4 = w3.heap.size + 1) :
  Bui X (w4.setCell ⟨pb, 7, none⟩ (.slice (some ⟨g4, 0, none⟩) ((a :: ads).length + 1) cap4)) B pb { m with top := elemN t [], up := m.top :: m.up } ((g, m.top.kids.length * 7) :: a :: ads) := by
 have ha := h.apart
 have hl := ha.2.2.2.2
 have hgpb := h.nopb g rfl
 have hpin := h.pbin
 obtain ⟨⟨c0, c1, c2, c3, c4, c5, c6, hp⟩, ht, hlw⟩ := h
 obtain ⟨v', hv'⟩ : ∃ v', v' = Value.slice (some ⟨g4, 0, none⟩) ((a :: ads).length + 1) cap4 := ⟨_, rfl⟩
 have hvo' : v'.ownBlock = some g4 := by rw [hv']; rfl
 rw [← hv'] at ho ⊢
 have hplt := hp.lt
 have hgp4 : g4 ≠ pb := by
  rcases hg4 with e | e
  ·exact fun e' => ha.2.1 (e' ▸ e)
  ·omega
 have hsame : ∀ k, k < w3.heap.size → k ≠ pb → vo.ownBlock ≠ some k → (w4.setCell ⟨pb, 7, none⟩ v').heap[k]? = w3.heap[k]? := fun k h1 h2 h3 => by
  rw [Below.heap_setCell _ _ _ _ h2, hgrow.block k (by simp; omega) (fun e => h3 e.symm)]
  exact heap_alloc_old w3 _ h1
 have hpb4 : w4.heap[pb]? = w3.heap[pb]? := by
  rw [hgrow.block pb (by simp; omega) (fun e => ha.2.1 e.symm)]
  exact heap_alloc_old w3 _ hplt
 have hL1 : ∀ k, k ∈ live ((g, m.top.kids.length * 7) :: a :: ads) (.slice none 0 0) vo vd → k ∈ live (a :: ads) (.slice (some ⟨g, 0, none⟩) (m.top.kids.length + 1) cap) vo vd := by
  intro k hk
  rcases mem_live.1 hk with x | x | x | x
  ·rw [List.map_cons] at x
   rcases List.mem_cons.1 x with x | x
   ·exact mem_live.2 (.inr (.inl (by rw [show k = g from x]; rfl)))
   ·exact mem_live.2 (.inl x)
  ·cases x
  ·exact mem_live.2 (.inr (.inr (.inl x)))
  ·exact mem_live.2 (.inr (.inr (.inr x)))
 have hti := TI.push (L' := live ((g, m.top.kids.length * 7) :: a :: ads) (.slice none 0 0) vo vd ++ X) ht hk hat (fun k hk => (List.mem_append.1 hk).elim (fun e => List.mem_append_left _ (hL1 k e)) (fun e => List.mem_append_right _ e)) hgpb
 have hpin' : pb ∈ live ((g, m.top.kids.length * 7) :: a :: ads) (.slice none 0 0) vo vd := mem_live.2 (.inl (by rw [List.map_cons]; exact List.mem_cons_of_mem _ hpin))
 have hgo : Goes w3 (live ((g, m.top.kids.length * 7) :: a :: ads) (.slice none 0 0) vo vd) (w4.setCell ⟨pb, 7, none⟩ v') (live ((g, m.top.kids.length * 7) :: a :: ads) (.slice none 0 0) v' vd) := fun k hk hn => ⟨fun e => by
   rcases mem_live.1 e with x | x | x | x
   ·exact hn (mem_live.2 (.inl x))
   ·cases x
   ·rw [hvo'] at x
    injection x with x
    rcases hg4 with y | y
    ·exact hn (mem_live.2 (.inr (.inr (.inl (x ▸ y)))))
    ·omega
   ·exact hn (mem_live.2 (.inr (.inr (.inr x)))), hsame k hk (fun e => hn (e ▸ hpin')) (fun e => hn (mem_live.2 (.inr (.inr (.inl e)))))⟩
 have hb4 : Blk w4 pb #[c0, c1, c2, c3, c4, c5, c6, vo, p, vd, .int .i64 m.dat] 89 := hpb4.trans hp.blk
 have hnode : ∀ k ∈ nodesL ((g, m.top.kids.length * 7) :: a :: ads) (.slice none 0 0), k ∈ nodesL (a :: ads) (.slice (some ⟨g, 0, none⟩) (m.top.kids.length + 1) cap) := by
  intro k hk
  rcases mem_nodes.1 hk with x | x
  ·rw [List.map_cons] at x
   rcases List.mem_cons.1 x with x | x
   ·exact mem_nodes.2 (.inr (by rw [show k = g from x]; rfl))
   ·exact mem_nodes.2 (.inl x)
  ·cases x
 refine ⟨.slice none 0 0, v', vd, p, [], ⟨⟨c0, c1, c2, c3, c4, c5, c6, hp.low, hb4.set 7 v', hp.addr, ?_, rowFs hp.chars (fun g' hg' => hsame g' (hl g' (mem_live.2 (.inr (.inr (.inr hg'))))).2 (fun e => ha.2.2.1 (e ▸ hg')) (fun e => ha.2.2.2.1 g' e hg'))⟩, ?_, hlw⟩⟩
 ·rw [ptrs_cons (g, m.top.kids.length * 7)]
  exact rowSame ho (fun g' hg' => Below.heap_setCell _ _ _ _ (fun e => by rw [hvo'] at hg'; injection hg' with hg'; exact hgp4 (hg'.trans e)))
 ·refine hti.go (hgo.app X) (fun j hj => ?_) (fun k hk hkp => ?_) (fun g' hg' => by cases hg')
  ·rw [cell_set_ne _ _ _ _ _ (by omega)]
   exact World.cell?_of_block hpb4
  ·have hk' := hnode k hk
   exact hsame k (hl k (by rcases mem_nodes.1 hk' with x | x; exact mem_live.2 (.inl x); exact mem_live.2 (.inr (.inl x)))).2 hkp (ha.1 k hk').1
end
section
open Go.RowKit
variable {X : List Nat}
theorem kinfo_ptr : (Tryz.prog.info? 90).map (fun i => (i.zero, i.size, i.bytes)) = some (some (.pointer none), 1, 8) := by kernel_rfl
set_option maxHeartbeats 8000000 in
theorem bo_start (B pb : Nat) (m : Mac) (a : Nat × Nat) (ads : List (Nat × Nat)) (t : TokD) (q : Option Addr) (c : Nat) (H : Nat) (w0 w : World) (hI : BuiF X H w B pb m (a :: ads)) (hn : m.top.kids.length ≤ 100000000) (ha : ads.length ≤ 1000) (hB : B ≤ w.heap.size) (hA : AttrsAt (holes w0 X) q t.al) (hB0 : w0.heap.size ≤ B) (hb0 : Below w0.heap.size w0 w) :
  Calls Tryz.prog 46 #[.pointer (some ⟨pb, 0, none⟩), .agg #[.int .i64 t.kind, .string (oB t.nm), .slice q t.al.length c, .bool t.em, .string (oB t.tx), .int .i64 t.at']] w fun e w' => e = .returned (.int .i64 (startM m t).2) ∧ (∃ b bds, Bui X w' B pb (startM m t).1 (b :: bds)) ∧ Below B w w' ∧ w'.heap[H]? = w.heap[H]? := by
 obtain ⟨i0, hi0, hi1, hi3, hi4⟩ := info_parts kinfo_ptr
 obtain ⟨W, hW⟩ : ∃ W, W = w.alloc (.cells #[.int .i64 t.kind, .string (oB t.nm), .slice q t.al.length c, .bool t.em, .string (oB t.tx), .int .i64 t.at'] 64) := ⟨_, rfl⟩
 have P1 : Blk W w.heap.size #[.int .i64 t.kind, .string (oB t.nm), .slice q t.al.length c, .bool t.em, .string (oB t.tx), .int .i64 t.at'] 64 := by rw [hW]; exact Blk.new w _ _
 have B1 : Below w.heap.size w W := by rw [hW]; exact (Below.refl _ _).alloc (Nat.le_refl _) _
 have hBW : B ≤ W.heap.size := by have := B1.size; omega
 have B1' := B1.mono hB
 have hzW : w.heap.size < W.heap.size := P1.lt
 obtain ⟨hHz, v0, vo, vd, p, xs, hJ, hHl'⟩ := hI
 have hHW := B1.block H hHz
 have hHz1 : H < W.heap.size := by omega
 have hHpb : H ≠ pb := fun e => hHl' (e ▸ mem_live.2 (.inl hJ.pbin))
 have hHl : w.heap.size ∉ live (a :: ads) v0 vo vd := fun e => by have := (hJ.apart.2.2.2.2 _ e).2; omega
 have J1 := hJ.more B1
 have I1 : Bui X W B pb m (a :: ads) := ⟨_, _, _, _, _, J1⟩
 obtain ⟨⟨g, cap, h7, hg⟩, _, ⟨A4, n4, C4, hn4, h4⟩, hup, hapb, _, hpl, hlow⟩ := I1.reads
 have cO := fun wx h1 => bo_outside pb (ads.length + 1) (some ⟨g, 0, none⟩) cap wx h1
 have HB := Lib.hid B1'
 by_cases hbad : m.up = [] ∧ m.top.kids ≠ []
 ·have he : startM m t = (m, 17) := by unfold startM; rw [if_pos hbad]
  rw [he]
  obtain ⟨hu, hk⟩ := hbad
  rw [hu] at hup
  rw [show decide (ads.length + 1 = 1) = true by simp [hup]] at cO
  rw [hapb hu] at h4
  have h4' : W.cell? ⟨pb, 4, none⟩ = some (.slice A4 n4 C4) := h4
  have cH := bo_hasRoot pb n4 A4 C4 W h4'
  rw [show decide (0 < n4) = true by rw [hn4]; simpa using List.length_pos_iff.2 hk] at cH
  have HI := Lib.hid I1
  clear hJ J1 I1 B1 B1' P1 hu he hup hn hHl hk h4 hapb
  go_enter Tryz.func46, Tryz.ntmps46
  go_upto_region 1 with fail
  simp only [← hW]
  clear hW
  go_wp2_with (first | (go_at_call 28; refine (cO _ h7).mono ?_; rintro e w1 ⟨rfl, rfl⟩) | (go_at_call 29; refine cH.mono ?_; rintro e w1 ⟨rfl, rfl⟩))
  go_ret
  exact ⟨rfl, ⟨_, _, HI.out⟩, HB.out, hHW⟩
 ·by_cases hdeep : 100 < m.up.length + 1
  ·have hu : m.up ≠ [] := fun e => by rw [e] at hdeep; simp at hdeep
   have he : startM m t = (m, 9) := by unfold startM; rw [if_neg hbad, if_pos hdeep]
   rw [he]
   rw [show decide (ads.length + 1 = 1) = false by simp; intro e; rw [e] at hup; exact hu (List.length_eq_zero_iff.1 hup.symm)] at cO
   have hd1 : (100 : Int) < (ads.length : Int) + 1 := by omega
   have HI := Lib.hid I1
   clear hJ J1 I1 B1 B1' P1 hu he hup hn hHl hbad hdeep h4 hapb
   go_enter Tryz.func46, Tryz.ntmps46
   go_upto_region 1 with fail
   simp only [← hW]
   clear hW
   go_wp2_with (first | (go_at_call 28; refine (cO _ h7).mono ?_; rintro e w1 ⟨rfl, rfl⟩))
   go_ret
   exact ⟨rfl, ⟨_, _, HI.out⟩, HB.out, hHW⟩
  ·have hd0 : ¬ (100 : Int) < (ads.length : Int) + 1 := by omega
   have hBW0 : Below w0.heap.size w0 W := hb0.trans (B1.mono (by omega))
   have cE := bo_endData B pb m a ads v0 vo vd p xs W J1 (by omega) (by omega) hBW
   have r1 : W.cell? ⟨w.heap.size, 1, none⟩ = some (.string (oB t.nm)) := P1.cell 1
   have r2 : W.cell? ⟨w.heap.size, 2, none⟩ = some (.slice q t.al.length c) := P1.cell 2
   have r3 : W.cell? ⟨w.heap.size, 3, none⟩ = some (.bool t.em) := P1.cell 3
   have r5 : W.cell? ⟨w.heap.size, 5, none⟩ = some (.int .i64 t.at') := P1.cell 5
   have hfk : (flushM m).top.kids.length ≤ m.top.kids.length + 1 := by
    unfold flushM
    split
    ·omega
    ·show (addKid _ _).kids.length ≤ _
     rw [addKid_kids, List.length_append]
     simp
   have hfu := flushM_up m
   by_cases hem : t.em = true
   ·have he : startM m t = ({ flushM m with top := addKid (elemN t []) (flushM m).top }, 0) := by unfold startM; rw [if_neg hbad, if_neg hdeep, if_pos hem]
    rw [he]
    simp only [hem] at r3 hW ⊢
    clear hem
    by_cases hu : m.up = []
    ·rw [hu] at hup
     rw [show decide (ads.length + 1 = 1) = true by simp [hup]] at cO
     rw [hapb hu] at h4
     have h4' : W.cell? ⟨pb, 4, none⟩ = some (.slice A4 n4 C4) := h4
     have cH := bo_hasRoot pb n4 A4 C4 W h4'
     rw [show decide (0 < n4) = false by rw [hn4]; simp; exact Decidable.byContradiction (fun e => hbad ⟨hu, e⟩)] at cH
     clear hJ J1 I1 B1 B1' P1 hu he hup hbad hdeep h4 hapb hn4
     go_enter Tryz.func46, Tryz.ntmps46
     go_upto_region 1 with fail
     simp only [← hW]
     clear hW
     go_wp2_with (first | (go_at_call 28; refine (cO _ h7).mono ?_; rintro e w1 ⟨rfl, rfl⟩) | (go_at_call 29; refine cH.mono ?_; rintro e w1 ⟨rfl, rfl⟩))
     refine cE.mono ?_
     rintro e w2 ⟨rfl, ⟨u0, uo, ud, up', ys, J2, gg2⟩, b2⟩
     obtain ⟨hH2', hh2'⟩ := gg2 H (by assumption) hHl'
     obtain ⟨hH2, hh2⟩ := gg2 w.heap.size (by assumption) hHl
     have s1 := (World.cell?_of_block hh2).trans r1
     have s2 := (World.cell?_of_block hh2).trans r2
     have s3 := (World.cell?_of_block hh2).trans r3
     have s5 := (World.cell?_of_block hh2).trans r5
     have z2 := b2.size
     have hA2 := attrs_far (X := X) (L := live (a :: ads) u0 uo ud) hA hB0 (hBW0.trans (b2.mono hB0)) (fun k hk => (J2.apart.2.2.2.2 k hk).1)
     go_wp2_with fail
     refine (bo_put B pb (flushM m) a ads u0 uo ud up' ys (elemN t []) 0 ⟨#[]⟩ (oB t.nm) q t.al.length c none 0 0 ⟨#[]⟩ t.at' w2 J2 (elemN_is hA2) (by omega) (by omega) (by omega)).mono ?_
     rintro e w3 ⟨g3, cap3, rfl, J3, k3, gg3, b3⟩
     obtain ⟨hH3', hh3'⟩ := gg3 H (by omega) hH2'
     have hHW3 := hh3'.trans (hh2'.trans hHW)
     obtain ⟨hH3, hh3⟩ := gg3 w.heap.size (by omega) hH2
     have y3 := (World.cell?_of_block hh3).trans s3
     go_wp2
     go_ret
     exact ⟨rfl, ⟨_, _, _, _, _, _, _, J3⟩, HB.out.trans (b2.trans b3), hHW3⟩
    ·rw [show decide (ads.length + 1 = 1) = false by simp; intro e; rw [e] at hup; exact hu (List.length_eq_zero_iff.1 hup.symm)] at cO
     clear hJ J1 I1 B1 B1' P1 hu he hup hbad hdeep h4 hapb hn4
     go_enter Tryz.func46, Tryz.ntmps46
     go_upto_region 1 with fail
     simp only [← hW]
     clear hW
     go_wp2_with (first | (go_at_call 28; refine (cO _ h7).mono ?_; rintro e w1 ⟨rfl, rfl⟩))
     refine cE.mono ?_
     rintro e w2 ⟨rfl, ⟨u0, uo, ud, up', ys, J2, gg2⟩, b2⟩
     obtain ⟨hH2', hh2'⟩ := gg2 H (by assumption) hHl'
     obtain ⟨hH2, hh2⟩ := gg2 w.heap.size (by assumption) hHl
     have s1 := (World.cell?_of_block hh2).trans r1
     have s2 := (World.cell?_of_block hh2).trans r2
     have s3 := (World.cell?_of_block hh2).trans r3
     have s5 := (World.cell?_of_block hh2).trans r5
     have z2 := b2.size
     have hA2 := attrs_far (X := X) (L := live (a :: ads) u0 uo ud) hA hB0 (hBW0.trans (b2.mono hB0)) (fun k hk => (J2.apart.2.2.2.2 k hk).1)
     go_wp2_with fail
     refine (bo_put B pb (flushM m) a ads u0 uo ud up' ys (elemN t []) 0 ⟨#[]⟩ (oB t.nm) q t.al.length c none 0 0 ⟨#[]⟩ t.at' w2 J2 (elemN_is hA2) (by omega) (by omega) (by omega)).mono ?_
     rintro e w3 ⟨g3, cap3, rfl, J3, k3, gg3, b3⟩
     obtain ⟨hH3', hh3'⟩ := gg3 H (by omega) hH2'
     have hHW3 := hh3'.trans (hh2'.trans hHW)
     obtain ⟨hH3, hh3⟩ := gg3 w.heap.size (by omega) hH2
     have y3 := (World.cell?_of_block hh3).trans s3
     go_wp2
     go_ret
     exact ⟨rfl, ⟨_, _, _, _, _, _, _, J3⟩, HB.out.trans (b2.trans b3), hHW3⟩
   ·have he : startM m t = ({ flushM m with top := elemN t [], up := (flushM m).top :: (flushM m).up }, 0) := by unfold startM; rw [if_neg hbad, if_neg hdeep, if_neg hem]
    rw [he]
    have hem' : t.em = false := by simpa using hem
    simp only [hem'] at r3 hW ⊢
    clear hem hem'
    by_cases hu : m.up = []
    ·rw [hu] at hup
     rw [show decide (ads.length + 1 = 1) = true by simp [hup]] at cO
     rw [hapb hu] at h4
     have h4' : W.cell? ⟨pb, 4, none⟩ = some (.slice A4 n4 C4) := h4
     have cH := bo_hasRoot pb n4 A4 C4 W h4'
     rw [show decide (0 < n4) = false by rw [hn4]; simp; exact Decidable.byContradiction (fun e => hbad ⟨hu, e⟩)] at cH
     clear hJ J1 I1 B1 B1' P1 hu he hup hbad hdeep h4 hapb hn4
     go_enter Tryz.func46, Tryz.ntmps46
     go_upto_region 1 with fail
     simp only [← hW]
     clear hW
     go_wp2_with (first | (go_at_call 28; refine (cO _ h7).mono ?_; rintro e w1 ⟨rfl, rfl⟩) | (go_at_call 29; refine cH.mono ?_; rintro e w1 ⟨rfl, rfl⟩))
     refine cE.mono ?_
     rintro e w2 ⟨rfl, ⟨u0, uo, ud, up', ys, J2, gg2⟩, b2⟩
     obtain ⟨hH2', hh2'⟩ := gg2 H (by assumption) hHl'
     obtain ⟨hH2, hh2⟩ := gg2 w.heap.size (by assumption) hHl
     have s1 := (World.cell?_of_block hh2).trans r1
     have s2 := (World.cell?_of_block hh2).trans r2
     have s3 := (World.cell?_of_block hh2).trans r3
     have s5 := (World.cell?_of_block hh2).trans r5
     have z2 := b2.size
     have hA2 := attrs_far (X := X) (L := live (a :: ads) u0 uo ud) hA hB0 (hBW0.trans (b2.mono hB0)) (fun k hk => (J2.apart.2.2.2.2 k hk).1)
     go_wp2_with fail
     refine (bo_put B pb (flushM m) a ads u0 uo ud up' ys (elemN t []) 0 ⟨#[]⟩ (oB t.nm) q t.al.length c none 0 0 ⟨#[]⟩ t.at' w2 J2 (elemN_is hA2) (by omega) (by omega) (by omega)).mono ?_
     rintro e w3 ⟨g3, cap3, rfl, J3, k3, gg3, b3⟩
     obtain ⟨hH3', hh3'⟩ := gg3 H (by omega) hH2'
     have hHW3 := hh3'.trans (hh2'.trans hHW)
     obtain ⟨hH3, hh3⟩ := gg3 w.heap.size (by omega) hH2
     have y3 := (World.cell?_of_block hh3).trans s3
     obtain ⟨c10, c9, c7, f10, f7⟩ := J3.c10
     have z3 := b3.size
     have hA3 := attrs_far (X := X) (L := live (a :: ads) (.slice (some ⟨g3, 0, none⟩) ((flushM m).top.kids.length + 1) cap3) uo ud) hA hB0 (hBW0.trans ((b2.trans b3).mono hB0)) (fun k hk => (J3.apart.2.2.2.2 k hk).1)
     have hopn : w3.ownsRow B 90 1 uo (a :: ads).length (ptrs (a :: ads)) := by
      obtain ⟨d0, d1, d2, d3, d4, d5, d6, hp⟩ := J3.bp
      exact hp.opn
     have hpo : uo.ownBlock ≠ some pb := J3.apart.2.1
     have hplt3 : pb < w3.heap.size := by omega
     obtain ⟨Ao, Co, huo⟩ := row_val hopn
     subst huo
     go_wp2_with (at_builtin; refine wpList_append_lies _ rfl _ _ 87 rfl B 90 i0 (.pointer none) 1 8 Tryz.underlying87 hi0 hi1 hi3 hi4 rfl (by decide) (.slice Ao (a :: ads).length Co) (a :: ads).length (ptrs (a :: ads)) rfl (hopn.alloc _) ⟨w3.heap.size, 0, none⟩ 1 1 [.pointer (some ⟨g3, (flushM m).top.kids.length * 7, none⟩)] rfl rfl ?c1 ?c2 (by decide) ?c3 ?c4 ?c5 (w3.heap.size + 1) (by simp) ?_)
     case c1 =>
      intro j u hj
      match j, hj with
      | 0, hj => simp at hj; subst hj; simp [Addr.add]
     case c2 => intro u hu'; simp at hu'; subst hu'; rfl
     case c3 => unfold maxLen; simp only [List.length_cons]; omega
     case c4 => simp only [List.length_cons]; omega
     case c5 => simp; omega
     intro g4 cap4 w4 hown4 hgrow4 hat4 hlt4
     have k7 : w4.cell? ⟨pb, 7, none⟩ = some (.slice Ao (a :: ads).length Co) := (hgrow4.cell_far ⟨pb, 7, none⟩ (by simp; omega) (fun e => hpo e.symm)).trans (cAl c7 _)
     have kf : w4.frozen? ⟨pb, 7, none⟩ = false := (hgrow4.frozen_far ⟨pb, 7, none⟩ (by simp; omega) (fun e => hpo e.symm)).trans ((World.frozen?_of_block (w := w3) (heap_alloc_old w3 _ hplt3)).trans f7)
     have hP := Bui.push (m := flushM m) J3 k3 hA3 hown4 hgrow4 hat4
     have hlo : Below B w3 (w4.setCell ⟨pb, 7, none⟩ (.slice (some ⟨g4, 0, none⟩) ((a :: ads).length + 1) cap4)) := by
      have h4b : Below B w3 w4 := by
       refine ⟨hgrow4.os, hgrow4.tape, hgrow4.output, by have := hgrow4.size; simp at this; omega, fun k hk => ?_⟩
       rw [hgrow4.block k (by simp; omega) (fun e => by have := (row_kind hopn k e.symm).1; omega)]
       exact heap_alloc_old w3 _ (by omega)
      exact h4b.setCell (p := ⟨pb, 7, none⟩) hlow _
     have hHW5 : (w4.setCell ⟨pb, 7, none⟩ (.slice (some ⟨g4, 0, none⟩) ((a :: ads).length + 1) cap4)).heap[H]? = w.heap[H]? := by
      rw [Below.heap_setCell _ _ _ _ hHpb, hgrow4.block H (by simp; omega) (fun e => hH3' (mem_live.2 (.inr (.inr (.inl e.symm)))))]
      exact (heap_alloc_old w3 _ (by omega)).trans hHW3
     have HP := Lib.hid hP
     have HL := Lib.hid hlo
     clear hP hlo hown4 hgrow4 hat4 J3 k3 gg3 hopn c7 c9 c10 J2 gg2
     go_wp2
     go_ret
     exact ⟨rfl, ⟨_, _, HP.out⟩, HB.out.trans ((b2.trans b3).trans HL.out), hHW5⟩
    ·rw [show decide (ads.length + 1 = 1) = false by simp; intro e; rw [e] at hup; exact hu (List.length_eq_zero_iff.1 hup.symm)] at cO
     clear hJ J1 I1 B1 B1' P1 hu he hup hbad hdeep h4 hapb hn4
     go_enter Tryz.func46, Tryz.ntmps46
     go_upto_region 1 with fail
     simp only [← hW]
     clear hW
     go_wp2_with (first | (go_at_call 28; refine (cO _ h7).mono ?_; rintro e w1 ⟨rfl, rfl⟩))
     refine cE.mono ?_
     rintro e w2 ⟨rfl, ⟨u0, uo, ud, up', ys, J2, gg2⟩, b2⟩
     obtain ⟨hH2', hh2'⟩ := gg2 H (by assumption) hHl'
     obtain ⟨hH2, hh2⟩ := gg2 w.heap.size (by assumption) hHl
     have s1 := (World.cell?_of_block hh2).trans r1
     have s2 := (World.cell?_of_block hh2).trans r2
     have s3 := (World.cell?_of_block hh2).trans r3
     have s5 := (World.cell?_of_block hh2).trans r5
     have z2 := b2.size
     have hA2 := attrs_far (X := X) (L := live (a :: ads) u0 uo ud) hA hB0 (hBW0.trans (b2.mono hB0)) (fun k hk => (J2.apart.2.2.2.2 k hk).1)
     go_wp2_with fail
     refine (bo_put B pb (flushM m) a ads u0 uo ud up' ys (elemN t []) 0 ⟨#[]⟩ (oB t.nm) q t.al.length c none 0 0 ⟨#[]⟩ t.at' w2 J2 (elemN_is hA2) (by omega) (by omega) (by omega)).mono ?_
     rintro e w3 ⟨g3, cap3, rfl, J3, k3, gg3, b3⟩
     obtain ⟨hH3', hh3'⟩ := gg3 H (by omega) hH2'
     have hHW3 := hh3'.trans (hh2'.trans hHW)
     obtain ⟨hH3, hh3⟩ := gg3 w.heap.size (by omega) hH2
     have y3 := (World.cell?_of_block hh3).trans s3
     obtain ⟨c10, c9, c7, f10, f7⟩ := J3.c10
     have z3 := b3.size
     have hA3 := attrs_far (X := X) (L := live (a :: ads) (.slice (some ⟨g3, 0, none⟩) ((flushM m).top.kids.length + 1) cap3) uo ud) hA hB0 (hBW0.trans ((b2.trans b3).mono hB0)) (fun k hk => (J3.apart.2.2.2.2 k hk).1)
     have hopn : w3.ownsRow B 90 1 uo (a :: ads).length (ptrs (a :: ads)) := by
      obtain ⟨d0, d1, d2, d3, d4, d5, d6, hp⟩ := J3.bp
      exact hp.opn
     have hpo : uo.ownBlock ≠ some pb := J3.apart.2.1
     have hplt3 : pb < w3.heap.size := by omega
     obtain ⟨Ao, Co, huo⟩ := row_val hopn
     subst huo
     go_wp2_with (at_builtin; refine wpList_append_lies _ rfl _ _ 87 rfl B 90 i0 (.pointer none) 1 8 Tryz.underlying87 hi0 hi1 hi3 hi4 rfl (by decide) (.slice Ao (a :: ads).length Co) (a :: ads).length (ptrs (a :: ads)) rfl (hopn.alloc _) ⟨w3.heap.size, 0, none⟩ 1 1 [.pointer (some ⟨g3, (flushM m).top.kids.length * 7, none⟩)] rfl rfl ?c1 ?c2 (by decide) ?c3 ?c4 ?c5 (w3.heap.size + 1) (by simp) ?_)
     case c1 =>
      intro j u hj
      match j, hj with
      | 0, hj => simp at hj; subst hj; simp [Addr.add]
     case c2 => intro u hu'; simp at hu'; subst hu'; rfl
     case c3 => unfold maxLen; simp only [List.length_cons]; omega
     case c4 => simp only [List.length_cons]; omega
     case c5 => simp; omega
     intro g4 cap4 w4 hown4 hgrow4 hat4 hlt4
     have k7 : w4.cell? ⟨pb, 7, none⟩ = some (.slice Ao (a :: ads).length Co) := (hgrow4.cell_far ⟨pb, 7, none⟩ (by simp; omega) (fun e => hpo e.symm)).trans (cAl c7 _)
     have kf : w4.frozen? ⟨pb, 7, none⟩ = false := (hgrow4.frozen_far ⟨pb, 7, none⟩ (by simp; omega) (fun e => hpo e.symm)).trans ((World.frozen?_of_block (w := w3) (heap_alloc_old w3 _ hplt3)).trans f7)
     have hP := Bui.push (m := flushM m) J3 k3 hA3 hown4 hgrow4 hat4
     have hlo : Below B w3 (w4.setCell ⟨pb, 7, none⟩ (.slice (some ⟨g4, 0, none⟩) ((a :: ads).length + 1) cap4)) := by
      have h4b : Below B w3 w4 := by
       refine ⟨hgrow4.os, hgrow4.tape, hgrow4.output, by have := hgrow4.size; simp at this; omega, fun k hk => ?_⟩
       rw [hgrow4.block k (by simp; omega) (fun e => by have := (row_kind hopn k e.symm).1; omega)]
       exact heap_alloc_old w3 _ (by omega)
      exact h4b.setCell (p := ⟨pb, 7, none⟩) hlow _
     have hHW5 : (w4.setCell ⟨pb, 7, none⟩ (.slice (some ⟨g4, 0, none⟩) ((a :: ads).length + 1) cap4)).heap[H]? = w.heap[H]? := by
      rw [Below.heap_setCell _ _ _ _ hHpb, hgrow4.block H (by simp; omega) (fun e => hH3' (mem_live.2 (.inr (.inr (.inl e.symm)))))]
      exact (heap_alloc_old w3 _ (by omega)).trans hHW3
     have HP := Lib.hid hP
     have HL := Lib.hid hlo
     clear hP hlo hown4 hgrow4 hat4 J3 k3 gg3 hopn c7 c9 c10 J2 gg2
     go_wp2
     go_ret
     exact ⟨rfl, ⟨_, _, HP.out⟩, HB.out.trans ((b2.trans b3).trans HL.out), hHW5⟩
end
section
open Go.RowKit
variable {X : List Nat}
set_option maxHeartbeats 4000000 in
theorem bo_add (B pb : Nat) (m : Mac) (a : Nat × Nat) (ads : List (Nat × Nat)) (t : TokD) (q : Option Addr) (c : Nat) (H : Nat) (w0 w : World) (hI : BuiF X H w B pb m (a :: ads)) (hn : m.top.kids.length ≤ 100000000) (ha : ads.length ≤ 1000) (hB : B ≤ w.heap.size) (hA : AttrsAt (holes w0 X) q t.al) (hB0 : w0.heap.size ≤ B) (hb0 : Below w0.heap.size w0 w) (hd : m.data.length + t.tx.length ≤ 140737488355328) (htx : t.tx.length ≤ 1000000000000) :
  Calls Tryz.prog 27 #[.pointer (some ⟨pb, 0, none⟩), .agg #[.int .i64 t.kind, .string (oB t.nm), .slice q t.al.length c, .bool t.em, .string (oB t.tx), .int .i64 t.at']] w fun e w' => e = .returned (.int .i64 (addM m t).2) ∧ (∃ b bds, Bui X w' B pb (addM m t).1 (b :: bds)) ∧ Below B w w' ∧ w'.heap[H]? = w.heap[H]? := by
 obtain ⟨kd, nm, al, em, tx, at'⟩ := t
 simp only at hA hd htx ⊢
 obtain ⟨W, hW⟩ : ∃ W, W = w.alloc (.cells #[.int .i64 kd, .string (oB nm), .slice q al.length c, .bool em, .string (oB tx), .int .i64 at'] 64) := ⟨_, rfl⟩
 have P1 : Blk W w.heap.size #[.int .i64 kd, .string (oB nm), .slice q al.length c, .bool em, .string (oB tx), .int .i64 at'] 64 := by rw [hW]; exact Blk.new w _ _
 have B1 : Below w.heap.size w W := by rw [hW]; exact (Below.refl _ _).alloc (Nat.le_refl _) _
 have hBW : B ≤ W.heap.size := by have := B1.size; omega
 have B1' := B1.mono hB
 have I1 : BuiF X H W B pb m (a :: ads) := by
  obtain ⟨hHz, v0, vo, vd, p, xs, hJ, hHl⟩ := hI
  exact ⟨by have := B1.size; omega, v0, vo, vd, p, xs, hJ.more B1, hHl⟩
 have hHW := B1.block H hI.1
 have r0 : W.cell? ⟨w.heap.size, 0, none⟩ = some (.int .i64 kd) := P1.cell 0
 have r1 : W.cell? ⟨w.heap.size, 1, none⟩ = some (.string (oB nm)) := P1.cell 1
 have r2 : W.cell? ⟨w.heap.size, 2, none⟩ = some (.slice q al.length c) := P1.cell 2
 have r3 : W.cell? ⟨w.heap.size, 3, none⟩ = some (.bool em) := P1.cell 3
 have r4 : W.cell? ⟨w.heap.size, 4, none⟩ = some (.string (oB tx)) := P1.cell 4
 have r5 : W.cell? ⟨w.heap.size, 5, none⟩ = some (.int .i64 at') := P1.cell 5
 have hBW0 : Below w0.heap.size w0 W := hb0.trans (B1.mono (by omega))
 have HB := Lib.hid B1'
 by_cases h1 : kd = 1
 ·subst h1
  have he : addM m ⟨1, nm, al, em, tx, at'⟩ = startM m ⟨1, nm, al, em, tx, at'⟩ := by unfold addM; rw [if_pos rfl]
  rw [he]
  have cS := bo_start B pb m a ads ⟨1, nm, al, em, tx, at'⟩ q c H w0 W I1 hn ha hBW hA hB0 hBW0
  clear hI I1 B1 B1' P1 hn hA he
  go_enter Tryz.func27, Tryz.ntmps27
  go_upto_region 1 with fail
  simp only [← hW]
  clear hW
  go_wp2_with fail
  refine cS.mono ?_
  rintro e w2 ⟨rfl, I2, b2, hh2⟩
  go_wp2
  go_ret
  exact ⟨rfl, I2, HB.out.trans b2, hh2.trans hHW⟩
 ·by_cases h2 : kd = 2
  ·subst h2
   have he : addM m ⟨2, nm, al, em, tx, at'⟩ = endM m ⟨2, nm, al, em, tx, at'⟩ := by unfold addM; rw [if_neg h1, if_pos rfl]
   rw [he]
   have cS := bo_end B pb m a ads ⟨2, nm, al, em, tx, at'⟩ q c H W I1 (by omega) (by omega) hBW
   clear hI I1 B1 B1' P1 hn hA he h1
   go_enter Tryz.func27, Tryz.ntmps27
   go_upto_region 1 with fail
   simp only [← hW]
   clear hW
   go_wp2_with fail
   refine cS.mono ?_
   rintro e w2 ⟨rfl, I2, b2, hh2⟩
   go_wp2
   go_ret
   exact ⟨rfl, I2, HB.out.trans b2, hh2.trans hHW⟩
  ·have he : addM m ⟨kd, nm, al, em, tx, at'⟩ = textM m ⟨kd, nm, al, em, tx, at'⟩ := by unfold addM; rw [if_neg h1, if_neg h2]
   rw [he]
   have cS := bo_text B pb m a ads ⟨kd, nm, al, em, tx, at'⟩ q c H W I1 hBW hd htx
   have d1 : (kd == 1) = false := by simpa using h1
   have d2 : (kd == 2) = false := by simpa using h2
   clear hI I1 B1 B1' P1 hn hA he
   go_enter Tryz.func27, Tryz.ntmps27
   go_upto_region 1 with fail
   simp only [← hW]
   clear hW
   go_wp2_with fail
   refine cS.mono ?_
   rintro e w2 ⟨rfl, I2, b2, hh2⟩
   go_wp2
   go_ret
   exact ⟨rfl, I2, HB.out.trans b2, hh2.trans hHW⟩
theorem Bui.new {w w1 w4 : World} {o : Obj} {g4 cap4 : Nat} (hX : ∀ k ∈ X, k < w.heap.size) (hb : Blk w1 w.heap.size #[.int .i64 0, .string ⟨#[]⟩, .string ⟨#[]⟩, .slice none 0 0, .slice none 0 0, .string ⟨#[]⟩, .int .i64 0, .slice none 0 0, .pointer none, .slice none 0 0, .int .i64 0] 89)
  (ho : w4.ownsRow w.heap.size 90 1 (.slice (some ⟨g4, 0, none⟩) (0 + 1) cap4) (0 + 1) ([] ++ [.pointer (some ⟨w.heap.size, 0, none⟩)])) (hgrow : (w1.alloc o).grownBy w4 none) (hg4 : g4 = w1.heap.size + 1) :
  Bui X (w4.setCell ⟨w.heap.size, 7, none⟩ (.slice (some ⟨g4, 0, none⟩) (0 + 1) cap4)) w.heap.size w.heap.size mac0 [(w.heap.size, 0)] := by
 have hlt := hb.lt
 have h4 : Blk w4 w.heap.size _ 89 := (hgrow.block w.heap.size (by simp; omega) (by simp)).trans ((heap_alloc_old w1 _ hlt).trans hb)
 have h5 := h4.set 7 (.slice (some ⟨g4, 0, none⟩) (0 + 1) cap4)
 refine ⟨.slice none 0 0, .slice (some ⟨g4, 0, none⟩) (0 + 1) cap4, .slice none 0 0, .pointer none, [], ⟨⟨_, _, _, _, _, _, _, Nat.le_refl _, h5, .inl rfl, rowSame ho (fun g' hg' => Below.heap_setCell _ _ _ _ (fun e => ?_)), ⟨by simp [Lib.byteCells, mac0], .inl ⟨rfl, rfl⟩⟩⟩, ?_, hX⟩⟩
 ·simp only [Value.ownBlock, Option.some.injEq] at hg'
  have : g' = w.heap.size := e
  omega
 ·refine ⟨nodes_nodup.2 ⟨by simp, fun k hk => by cases hk⟩, ⟨_, _, rfl, none, 0, ⟨h5.cell 0, h5.cell 1, h5.cell 2, h5.cell 3, h5.cell 4, h5.cell 5, h5.cell 6⟩, fun i h => absurd h (Nat.not_lt_zero _)⟩, World.ownsRow_nil _ _ _ _, rfl, ⟨rfl, rfl⟩⟩
set_option maxHeartbeats 4000000 in
theorem bo_new (w : World) (hX : ∀ k ∈ X, k < w.heap.size) : Calls Tryz.prog 26 #[] w fun e w' => e = .returned (.pointer (some ⟨w.heap.size, 0, none⟩)) ∧ Bui X w' w.heap.size w.heap.size mac0 [(w.heap.size, 0)] ∧ Below w.heap.size w w' := by
 obtain ⟨i0, hi0, hi1, hi3, hi4⟩ := info_parts kinfo_ptr
 obtain ⟨W, hW⟩ : ∃ W, W = w.alloc (.cells #[.int .i64 0, .string ⟨#[]⟩, .string ⟨#[]⟩, .slice none 0 0, .slice none 0 0, .string ⟨#[]⟩, .int .i64 0, .slice none 0 0, .pointer none, .slice none 0 0, .int .i64 0] 89) := ⟨_, rfl⟩
 have P1 : Blk W w.heap.size #[.int .i64 0, .string ⟨#[]⟩, .string ⟨#[]⟩, .slice none 0 0, .slice none 0 0, .string ⟨#[]⟩, .int .i64 0, .slice none 0 0, .pointer none, .slice none 0 0, .int .i64 0] 89 := by rw [hW]; exact Blk.new w _ _
 have B1 : Below w.heap.size w W := by rw [hW]; exact (Below.refl _ _).alloc (Nat.le_refl _) _
 have r7 : W.cell? ⟨w.heap.size, 7, none⟩ = some (.slice none 0 0) := P1.cell 7
 have r7a := cAl r7
 have hz : w.heap.size < W.heap.size := P1.lt
 have hBW : w.heap.size ≤ W.heap.size + 1 := by omega
 have hown : ∀ o : Obj, (W.alloc o).drew.ownsRow w.heap.size 90 1 (.slice none 0 0) 0 [] := fun o => World.ownsRow_nil _ _ _ _
 have hnews : ∀ j u, ([.pointer (some ⟨w.heap.size, 0, none⟩)] : List Value)[j]? = some u → (W.alloc (.cells #[.pointer (some ⟨w.heap.size, 0, none⟩)] 90)).drew.cell? ((⟨W.heap.size, 0, none⟩ : Addr).add j) = some u := World.news_of_block (w := (W.alloc (.cells #[.pointer (some ⟨w.heap.size, 0, none⟩)] 90)).drew) (cs := #[.pointer (some ⟨w.heap.size, 0, none⟩)]) (heap_alloc_new W _)
 have hp4 : ∀ (w4 : World), ((W.alloc (.cells #[.pointer (some ⟨w.heap.size, 0, none⟩)] 90)).drew).grownBy w4 none → w4.cell? ⟨w.heap.size, 7, none⟩ = some (.slice none 0 0) ∧ w4.frozen? ⟨w.heap.size, 7, none⟩ = false := by
  intro w4 hgrow
  exact ⟨(hgrow.cell_far ⟨w.heap.size, 7, none⟩ (by simp; omega) (by simp)).trans (cAl r7 _), (hgrow.frozen_far ⟨w.heap.size, 7, none⟩ (by simp; omega) (by simp)).trans ((World.frozen?_of_block (w := W) (heap_alloc_old W _ hz)).trans (P1.fr 7))⟩
 have HB := Lib.hid B1
 have HP := Lib.hid P1
 clear B1 P1
 go_enter Tryz.func26, Tryz.ntmps26
 go_upto_region 2 with fail
 simp only [← hW]
 clear hW
 go_region_law ((refine step_append_lies _ rfl (.tmp 8) (.tmp 12) 87 rfl w.heap.size 90 i0 (.pointer none) 1 8 Tryz.underlying87 hi0 hi1 hi3 hi4 rfl (by decide) (.slice none 0 0) 0 [] (by simp [Act.eval]) (hown _) ⟨W.heap.size, 0, none⟩ 1 1 [.pointer (some ⟨w.heap.size, 0, none⟩)] (by simp [Act.eval]) rfl hnews (by intro u hu; simp at hu; subst hu; rfl) (by decide) (by decide) (by decide) (by simpa using hBW) (W.heap.size + 1) (by simp) ?_; intro g4 cap4 w4 hown4 hgrow4 hat4 hlt4; obtain ⟨k7, kf⟩ := hp4 w4 hgrow4))
 all_goals
  go_wp2
  go_ret
  have hg4 : g4 = W.heap.size + 1 := by
   rcases hat4 with x | x
   ·cases x
   ·exact x
  have h4b : Below w.heap.size W w4 := by
   refine ⟨hgrow4.os, hgrow4.tape, hgrow4.output, by have := hgrow4.size; simp at this; omega, fun k hk => ?_⟩
   rw [hgrow4.block k (by simp; omega) (by simp [Value.ownBlock])]
   exact heap_alloc_old W _ (by omega)
  exact ⟨rfl, Bui.new (o := .cells #[.pointer (some ⟨w.heap.size, 0, none⟩)] 90) hX HP.out hown4 ⟨hgrow4.os, hgrow4.tape, hgrow4.output, hgrow4.size, hgrow4.block⟩ hg4, HB.out.trans (h4b.setCell (p := ⟨w.heap.size, 7, none⟩) (Nat.le_refl _) _)⟩
end
section
open Go.RowKit
def ParsIs (w0 : World) (R : NodeD × Int × Int) (e : Ending) (w' : World) : Prop := ∃ v, e = .returned (.tuple #[v, .int .i64 R.2.1, .int .i64 R.2.2]) ∧ NodeIs w' R.1 v ∧ Below w0.heap.size w0 w'
theorem runM_drop (m : Mac) (l : List TokD) (i : Nat) (h : i < l.length) : runM m (l.drop i) = if (addM m l[i]).2 ≠ 0 then ((addM m l[i]).1, l[i].at', (addM m l[i]).2) else runM (addM m l[i]).1 (l.drop (i + 1)) := by
 rw [List.drop_eq_getElem_cons h, runM]
theorem BI.done {X : List Nat} {w : World} {B pb : Nat} {m : Mac} {a : Nat × Nat} {ads : List (Nat × Nat)} {v0 vo vd p : Value} {xs : List Value} (h : BI X w B pb m (a :: ads) v0 vo vd p xs) (hu : m.up = []) {k : NodeD} {r : List NodeD} (hk : m.top.kids = k :: r) :
  ∃ g cap pa ca pk ck, w.cell? ⟨pb, 4, none⟩ = some (.slice (some ⟨g, 0, none⟩) m.top.kids.length cap) ∧ At7 w g 0 k.kind k.sp k.nm pa k.al.length ca pk k.kids.length ck k.tx k.at' ∧ NodeIs (holes w (live (a :: ads) v0 vo vd ++ X)) k (.agg #[.int .i64 k.kind, .string k.sp, .string k.nm, .slice pa k.al.length ca, .slice pk k.kids.length ck, .string k.tx, .int .i64 k.at']) := by
 have hb : Bui X w B pb m (a :: ads) := ⟨_, _, _, _, _, h⟩
 obtain ⟨_, _, _, _, hap, _⟩ := hb.reads
 have hapb := hap hu
 obtain ⟨a', r', har, pa0, ca0, ⟨_, _, _, _, k4, _, _⟩, _⟩ := h.ti.top7
 injection har with e1 e2
 subst e1
 rw [hapb] at k4
 obtain ⟨g, cap, hv0, _, _⟩ := World.ownsRow.form h.ti.row (by rw [hk]; simp)
 have hkr := h.ti.kids
 have hrow := h.ti.row
 rw [hk, KRow] at hkr
 obtain ⟨c0, c1, c2, c3, c4, c5, c6, ys, hxs, hn, _⟩ := hkr
 have hn' := hn
 rw [node_is] at hn
 obtain ⟨pa, ca, pk, ck, he, _, _⟩ := hn
 injection he with he
 have hcs : [c0, c1, c2, c3, c4, c5, c6] = [.int .i64 k.kind, .string k.sp, .string k.nm, .slice pa k.al.length ca, .slice pk k.kids.length ck, .string k.tx, .int .i64 k.at'] := by simpa using he
 simp only [List.cons.injEq, and_true] at hcs
 obtain ⟨rfl, rfl, rfl, rfl, rfl, rfl, rfl⟩ := hcs
 have hc : ∀ j u, xs[j]? = some u → w.cell? ⟨g, j, none⟩ = some u := by
  intro j u hu'
  have := World.ownsRow.cells hrow (g := g) (by rw [hv0]; rfl) j u hu'
  rw [show (⟨g, 0, none⟩ : Addr).add j = ⟨g, j, none⟩ by unfold Addr.add; split <;> simp_all] at this
  exact this
 refine ⟨g, cap, pa, ca, pk, ck, by rw [← hv0]; exact k4, ⟨hc 0 _ (by rw [hxs]; rfl), hc 1 _ (by rw [hxs]; rfl), hc 2 _ (by rw [hxs]; rfl), hc 3 _ (by rw [hxs]; rfl), hc 4 _ (by rw [hxs]; rfl), hc 5 _ (by rw [hxs]; rfl), hc 6 _ (by rw [hxs]; rfl)⟩, hn'⟩
theorem sevK (R : Nat) (w : World) (u0 u1 u2 u3 u4 u5 u6 : Value) : Keep R w (((((((w.setCell ⟨R, 0, none⟩ u0).setCell ⟨R, 1, none⟩ u1).setCell ⟨R, 2, none⟩ u2).setCell ⟨R, 3, none⟩ u3).setCell ⟨R, 4, none⟩ u4).setCell ⟨R, 5, none⟩ u5).setCell ⟨R, 6, none⟩ u6) := (((((((Keep.refl R w).set 0 u0).set 1 u1).set 2 u2).set 3 u3).set 4 u4).set 5 u5).set 6 u6
theorem fresh_keep {R : Nat} {w w1 w2 : World} (h : Below w.heap.size w w1) (hk : Keep R w1 w2) (hR : w.heap.size = R) : Below w.heap.size w w2 := hk.below h (by omega) h.size
set_option maxHeartbeats 16000000 in
theorem xt_Parse (s : ByteArray) (w : World) (hs : s.size ≤ 40000) (hT : TokT w) : Calls Tryz.prog 9 #[.string s] w fun e w' => ParsIs w (parseP s) e w' := by
 have hE : parseP s = if (toksP s).2.2 ≠ 0 then (zeroN, (toksP s).2.1, (toksP s).2.2)
  else if (runM mac0 (toksP s).1).2.2 ≠ 0 then (zeroN, (runM mac0 (toksP s).1).2.1, (runM mac0 (toksP s).1).2.2)
  else match (runM mac0 (toksP s).1).1.up, (runM mac0 (toksP s).1).1.top.kids with
   | [], k :: _ => (k, (s.size : Int), 0)
   | _, _ => (zeroN, (s.size : Int), 8) := rfl
 obtain ⟨W0, hW0⟩ : ∃ W0, W0 = w.alloc (.cells nodeZs 25) := ⟨_, rfl⟩
 have P0 : Blk W0 w.heap.size nodeZs 25 := by rw [hW0]; exact Blk.new w _ _
 have B0 : Below w.heap.size w W0 := by rw [hW0]; exact (Below.refl _ _).alloc (Nat.le_refl _) _
 have cT := tok_TokensN s W0 (by omega) (TokT_below hT (by rw [hW0]; exact (Below.refl _ _).alloc (Nat.le_refl _) _))
 have hsm := (toksP_small s).1
 have htx := toksP_tx s
 unfold TokIsN at cT
 generalize toksP s = TP at *
 obtain ⟨l, x1, x2⟩ := TP
 simp only at cT hE hsm htx
 have hz0 : w.heap.size < W0.heap.size := P0.lt
 have HP0 := Lib.hid P0
 have HB0 := Lib.hid B0
 have HTX := Lib.hid htx
 have hM : (s.size + 1) * (s.size + 4) ≤ 40001 * 40004 := Nat.mul_le_mul (by omega) (by omega)
 have HM := Lib.hid hM
 clear P0 B0 htx hT hM
 by_cases hx2 : x2 = 0
 ·subst hx2
  rw [if_neg (by decide)] at hE
  have HE := Lib.hid hE
  clear hE
  go_enter Tryz.func9, Tryz.ntmps9
  go_upto_region 1 with fail
  simp only [nodeZs] at hW0
  simp only [← hW0]
  clear hW0
  go_wp2_with fail
  refine cT.mono ?_
  rintro e w1 ⟨p, c, rfl, hTk, b1⟩
  have P1 : Blk w1 w.heap.size nodeZs 25 := HP0.out.more b1
  have B1 := HB0.out.trans (b1.mono (by omega))
  have hRz : w.heap.size < w1.heap.size := P1.lt
  have hTA : TokensAt (holes w1 [w.heap.size]) p l := hTk _ (fun b hb _ => holes_ne w1 _ b (by simp; omega))
  have HB1 := Lib.hid B1
  have HP1 := Lib.hid P1
  have HTA := Lib.hid hTA
  clear P1 B1 b1 hTA hTk HP0 HB0 cT
  have cN := bo_new (X := [w.heap.size]) w1 (fun k hk => by simp at hk; omega)
  go_wp2_with fail
  refine cN.mono ?_
  rintro e w2 ⟨rfl, I2, b2⟩
  have HI2 := Lib.hid I2
  clear cN I2
  obtain ⟨R, hR⟩ : ∃ R, R = w.heap.size := ⟨_, rfl⟩
  go_wp2
  go_loopw [26] (fun q wr => ∃ (i : Nat) (m : Mac) (a : Nat × Nat) (ads : List (Nat × Nat)), q = .int .i64 i ∧ i ≤ l.length ∧ runM mac0 l = runM m (l.drop i) ∧ Bnd m (2 * i) ∧ m.data.length ≤ i * 1600200004 ∧ Bui [w.heap.size] wr w1.heap.size w1.heap.size m (a :: ads) ∧ Below w1.heap.size w1 wr) (fun q _ => l.length - (intOf q).toNat)
  case atStart => exact ⟨0, mac0, _, _, rfl, Nat.zero_le _, rfl, ⟨Nat.zero_le _, (fun f (hf : f ∈ ([] : List NodeD)) => by cases hf), Nat.zero_le _⟩, Nat.zero_le _, HI2.out, b2⟩
  case round =>
   obtain ⟨i, m, a, ads, rfl, hi, hrun, hbd, hda, hI, hb⟩ := hrel
   have hrd := hI.reads
   by_cases hlt : i < l.length
   ·have hiz : (i : Int) < (l.length : Int) := by omega
    have hi0 : (0 : Int) ≤ (i : Int) := by omega
    obtain ⟨ad, q, cq, rfl, ⟨a0, a1, a2, a3, a4, a5⟩, hA⟩ := HTA.out i hlt
    have hkey : ∀ x v, (holes w1 [w.heap.size]).cell? x = some v → wr.cell? x = some v := fun x v h => (hb.cell (kbl (holes_cell h).1)).trans (holes_cell h).1
    replace a0 := hkey _ _ a0
    replace a1 := hkey _ _ a1
    replace a2 := hkey _ _ a2
    replace a3 := hkey _ _ a3
    replace a4 := hkey _ _ a4
    replace a5 := hkey _ _ a5
    have htx := (HTX.out l[i] (List.getElem_mem _)).1
    have hM := HM.out
    have HTX4 := Lib.hid (show (l[i]).tx.length ≤ 1600200004 by omega)
    rw [runM_drop m l i hlt] at hrun
    have hbd2 := hbd.add l[i]
    have hda2 := add_data m l[i]
    obtain ⟨t, ht⟩ : ∃ t, l[i] = t := ⟨_, rfl⟩
    rw [ht] at a0 a1 a2 a3 a4 a5 hA htx hrun hbd2 hda2 HTX4
    obtain ⟨cc, hcc⟩ : ∃ cc, ad.add (i * 6) = cc := ⟨_, rfl⟩
    rw [hcc] at a0 a1 a2 a3 a4 a5
    simp only [Addr.add, Nat.reduceEqDiff, ↓reduceIte] at a1 a2 a3 a4 a5
    obtain ⟨Wt, hWt⟩ : ∃ Wt, Wt = wr.alloc (.cells #[.int .i64 t.kind, .string (oB t.nm), .slice q t.al.length cq, .bool t.em, .string (oB t.tx), .int .i64 t.at'] 64) := ⟨_, rfl⟩
    have Pt : Blk Wt wr.heap.size #[.int .i64 t.kind, .string (oB t.nm), .slice q t.al.length cq, .bool t.em, .string (oB t.tx), .int .i64 t.at'] 64 := by rw [hWt]; exact Blk.new wr _ _
    have Bt : Below wr.heap.size wr Wt := by rw [hWt]; exact (Below.refl _ _).alloc (Nat.le_refl _) _
    have hzr := hb.size
    have hBt := hb.trans (Bt.mono hzr)
    have hIF : BuiF [w.heap.size] wr.heap.size Wt w1.heap.size w1.heap.size m (a :: ads) := by
     obtain ⟨v0, vo, vd, pp, xs, hJ⟩ := hI
     exact ⟨Pt.lt, v0, vo, vd, pp, xs, hJ.more Bt, fun e => by have := (hJ.apart.2.2.2.2 _ e).2; omega⟩
    have hup := hrd.2.2.2.1
    have hk1 := hbd.1
    have hu1 := hbd.2.2
    have cA := bo_add w1.heap.size w1.heap.size m a ads t q cq wr.heap.size w1 Wt hIF (by omega) (by omega) (by have := Bt.size; omega) hA (Nat.le_refl _) hBt (by omega) (by omega)
    have t0 := Pt.cell 0
    have HB := Lib.hid hBt
    have HPt := Lib.hid Pt
    have HBD := Lib.hid hbd2
    have HDA := Lib.hid hda2
    have HDB := Lib.hid hda
    have hzt := Pt.lt
    have HRUN := Lib.hid hrun
    have e5 : Wt.cell? ⟨wr.heap.size, 5, none⟩ = some (.int .i64 t.at') := Pt.cell 5
    clear hI hIF hrd hbd hda hbd2 hda2 hM htx Pt Bt hBt hb hA hrun hkey hup hk1 hu1 t0
    generalize (addM m t).2 = e2 at cA HRUN
    generalize (addM m t).1 = m2 at cA HRUN HBD HDA
    rw [hWt] at cA e5 HB hzt
    clear HPt hWt
    by_cases he2 : e2 = 0
    ·go_wp2_with fail
     refine cA.mono ?_
     rintro e w4 ⟨rfl, ⟨b, bds, I4⟩, b4, hh4⟩
     subst he2
     have HR := Lib.hid ((HRUN.out).trans (if_neg (by decide)))
     have HI4 := Lib.hid I4
     clear I4 hh4
     go_wp2
     go_roundw
     case rel => exact ⟨i + 1, m2, b, bds, by go_num, by omega, HR.out, HBD.out.more (by omega), by have := HDA.out; have := HDB.out; have := HTX4.out; omega, HI4.out, HB.out.trans b4⟩
     case measure => simp [intOf]; omega
    ·have heb : (e2 != 0) = true := by simpa using he2
     have HR := Lib.hid ((HRUN.out).trans (if_pos he2))
     go_wp2_with fail
     refine cA.mono ?_
     rintro e w4 ⟨rfl, -, b4, hh4⟩
     have d5 : w4.cell? ⟨wr.heap.size, 5, none⟩ = some (.int .i64 t.at') := (World.cell?_of_block hh4).trans e5
     have hne1 : wr.heap.size ≠ w.heap.size := by omega
     have hne2 : w.heap.size ≠ wr.heap.size := by omega
     have B4 := HB.out.trans b4
     have PE : Blk w4 w.heap.size nodeZs 25 := HP1.out.more B4
     obtain ⟨⟨r0, r1, r2, r3, r4, r5, r6⟩, g0, g1, g2, g3, g4, g5, g6⟩ := PE.seven
     have HB4 := Lib.hid (HB1.out.trans (B4.mono (by omega)))
     clear PE B4 b4 hh4
     have hpe : parseP s = (zeroN, t.at', e2) := by rw [HE.out, HR.out]; exact if_pos he2
     have HPE := Lib.hid hpe
     clear hpe
     generalize hq : w.heap.size = hs' at r0 r1 r2 r3 r4 r5 r6 g0 g1 g2 g3 g4 g5 g6 hne1 hne2 ⊢
     have HQ := Lib.hid hq
     clear hq
     go_wp2
     go_region
     all_goals
      go_wp2
      exact bodyPost_ret (v := .tuple #[zeroV, .int .i64 t.at', .int .i64 e2]) (by simp [results, Tryz.results9, go_sem, cSs, r0, r1, r2, r3, r4, r5, r6, zeroV]) rfl (by rw [HPE.out]; exact ⟨zeroV, rfl, zero_is _, fresh_keep HB4.out (sevK _ _ _ _ _ _ _ _ _).drew HQ.out⟩)
   ·obtain rfl : i = l.length := by omega
    rw [List.drop_eq_nil_of_le (Nat.le_refl _), runM] at hrun
    have hpe0 := HE.out
    rw [hrun] at hpe0
    replace hpe0 := hpe0.trans (if_neg (by simp))
    simp only at hpe0
    obtain ⟨⟨g, cap, h7, hg⟩, _, ⟨A4, n4, C4, hn4, h4⟩, hup, hap, _, hpl, _⟩ := hrd
    have cO := fun wx h1 => bo_outside w1.heap.size (ads.length + 1) (some ⟨g, 0, none⟩) cap wx h1
    by_cases hu : m.up = []
    ·rw [hu] at hup
     rw [show decide (ads.length + 1 = 1) = true by simp [hup]] at cO
     rw [hap hu] at h4
     have h4' : wr.cell? ⟨w1.heap.size, 4, none⟩ = some (.slice A4 n4 C4) := h4
     have cH := bo_hasRoot w1.heap.size n4 A4 C4 wr h4'
     rcases hk : m.top.kids with _ | ⟨k, r⟩
     ·have hpe : parseP s = (zeroN, (s.size : Int), 8) := by rw [hpe0, hu, hk]
      rw [show decide (0 < n4) = false by rw [hn4, hk]; rfl] at cH
      have HPE := Lib.hid hpe
      clear hpe hpe0 hk
      have PE : Blk wr w.heap.size nodeZs 25 := HP1.out.more hb
      obtain ⟨⟨r0, r1, r2, r3, r4, r5, r6⟩, g0, g1, g2, g3, g4, g5, g6⟩ := PE.seven
      have HBE := Lib.hid (HB1.out.trans (hb.mono (by omega)))
      clear PE hb hI hrun hap hup hbd hda h4 hn4 hu
      generalize hq : w.heap.size = hs' at r0 r1 r2 r3 r4 r5 r6 g0 g1 g2 g3 g4 g5 g6 ⊢
      have HQ := Lib.hid hq
      clear hq
      go_wp2_with (first | (go_at_call 28; refine (cO _ h7).mono ?_; rintro e w4 ⟨rfl, rfl⟩) | (go_at_call 29; refine cH.mono ?_; rintro e w4 ⟨rfl, rfl⟩))
      exact bodyPost_ret (v := .tuple #[zeroV, .int .i64 s.size, .int .i64 8]) (by simp [results, Tryz.results9, go_sem, cSs, r0, r1, r2, r3, r4, r5, r6, zeroV]) rfl (by rw [HPE.out]; exact ⟨zeroV, rfl, zero_is _, fresh_keep HBE.out (sevK _ _ _ _ _ _ _ _ _) HQ.out⟩)
     ·have hpe : parseP s = (k, (s.size : Int), 0) := by rw [hpe0, hu, hk]
      rw [show decide (0 < n4) = true by rw [hn4, hk]; simp] at cH
      have HPE := Lib.hid hpe
      obtain ⟨v0, vo, vd, pp, xs, hJ⟩ := hI
      obtain ⟨g5, cap5, pa, ca, pk, ck, k4, h77, hnode⟩ := hJ.done hu hk
      have cRt := bo_root w1.heap.size m.top.kids.length g5 cap5 k.kind k.sp k.nm pa k.al.length ca pk k.kids.length ck k.tx k.at' wr k4 (by rw [hk]; simp) h77
      have PE : Blk wr w.heap.size nodeZs 25 := HP1.out.more hb
      have HPW := Lib.hid PE
      have HBE := Lib.hid (HB1.out.trans (hb.mono (by omega)))
      have HN := Lib.hid hnode
      clear PE hb hJ hrun hap hup hbd hda h4 hn4 hu hpe hpe0 hk hnode
      go_wp2_with (first | (go_at_call 28; refine (cO _ h7).mono ?_; rintro e w4 ⟨rfl, rfl⟩) | (go_at_call 29; refine cH.mono ?_; rintro e w4 ⟨rfl, rfl⟩))
      refine cRt.mono ?_
      rintro e w5 ⟨rfl, b5⟩
      have P5 := HPW.out.more b5
      obtain ⟨⟨r0, r1, r2, r3, r4, r5, r6⟩, g0, g1, g2, g3, g4, g5', g6⟩ := P5.seven
      have B5 := HBE.out.trans (b5.mono (by have := HBE.out.size; omega))
      have HB5 := Lib.hid B5
      have Hb5 := Lib.hid b5
      clear P5 B5 b5
      generalize hq : w.heap.size = hs' at r0 r1 r2 r3 r4 r5 r6 g0 g1 g2 g3 g4 g5' g6 ⊢
      have HQ := Lib.hid hq
      clear hq
      go_wp2
      exact bodyPost_ret (v := .tuple #[.agg #[.int .i64 k.kind, .string k.sp, .string k.nm, .slice pa k.al.length ca, .slice pk k.kids.length ck, .string k.tx, .int .i64 k.at'], .int .i64 s.size, .int .i64 0]) (by simp [results, Tryz.results9, go_sem, cSs, r0, r1, r2, r3, r4, r5, r6]) rfl (by rw [HPE.out]; exact ⟨_, rfl, (HN.out.go ((Goes.below Hb5.out).trans (Goes.keep (sevK hs' _ _ _ _ _ _ _ _) (List.mem_append_right _ (by rw [← HQ.out]; simp))) Hb5.out.size)).full, fresh_keep HB5.out (sevK _ _ _ _ _ _ _ _ _) HQ.out⟩)
    ·rw [show decide (ads.length + 1 = 1) = false by simp; intro e; rw [e] at hup; exact hu (List.length_eq_zero_iff.1 hup.symm)] at cO
     have hpe : parseP s = (zeroN, (s.size : Int), 8) := by
      rw [hpe0]
      cases hm : m.up with
      | nil => exact absurd hm hu
      | cons f r => rfl
     have HPE := Lib.hid hpe
     clear hpe hpe0
     have PE : Blk wr w.heap.size nodeZs 25 := HP1.out.more hb
     obtain ⟨⟨r0, r1, r2, r3, r4, r5, r6⟩, g0, g1, g2, g3, g4, g5, g6⟩ := PE.seven
     have HBE := Lib.hid (HB1.out.trans (hb.mono (by omega)))
     clear PE hb hI hrun hap hup hbd hda h4 hn4 hu
     generalize hq : w.heap.size = hs' at r0 r1 r2 r3 r4 r5 r6 g0 g1 g2 g3 g4 g5 g6 ⊢
     have HQ := Lib.hid hq
     clear hq
     go_wp2_with (first | (go_at_call 28; refine (cO _ h7).mono ?_; rintro e w4 ⟨rfl, rfl⟩))
     exact bodyPost_ret (v := .tuple #[zeroV, .int .i64 s.size, .int .i64 8]) (by simp [results, Tryz.results9, go_sem, cSs, r0, r1, r2, r3, r4, r5, r6, zeroV]) rfl (by rw [HPE.out]; exact ⟨zeroV, rfl, zero_is _, fresh_keep HBE.out (sevK _ _ _ _ _ _ _ _ _) HQ.out⟩)
 ·rw [if_pos hx2] at hE
  rw [hE]
  have hxb : (x2 != 0) = true := by simpa using hx2
  go_enter Tryz.func9, Tryz.ntmps9
  go_upto_region 1 with fail
  simp only [nodeZs] at hW0
  simp only [← hW0]
  clear hW0
  go_wp2_with fail
  refine cT.mono ?_
  rintro e w1 ⟨p, c, rfl, -, b1⟩
  have PE : Blk w1 w.heap.size nodeZs 25 := HP0.out.more b1
  obtain ⟨⟨r0, r1, r2, r3, r4, r5, r6⟩, g0, g1, g2, g3, g4, g5, g6⟩ := PE.seven
  have B1 := HB0.out.trans (b1.mono (by omega))
  have HB1 := Lib.hid B1
  clear PE B1 b1
  generalize hq : w.heap.size = hs' at r0 r1 r2 r3 r4 r5 r6 g0 g1 g2 g3 g4 g5 g6 ⊢
  have HQ := Lib.hid hq
  clear hq
  go_wp2
  exact bodyPost_ret (v := .tuple #[zeroV, .int .i64 x1, .int .i64 x2]) (by simp [results, Tryz.results9, go_sem, cSs, r0, r1, r2, r3, r4, r5, r6, zeroV]) rfl ⟨zeroV, rfl, zero_is _, fresh_keep HB1.out (sevK _ _ _ _ _ _ _ _ _) HQ.out⟩
end
section
open Go.RowKit
def ElC (l : List TokD) (z : Int) (F : Nat) : Prop := ∀ (d i p : Nat) (A : Option Addr) (ct : Nat) (a0 : Int) (w : World), i < l.length → 2 * (l.length - i) ≤ F → d ≤ 101 → Par w p A l.length ct (i : Int) a0 0 → TokensAt (holes w [p]) A l →
 Calls Tryz.prog 33 #[.pointer (some ⟨p, 0, none⟩), .int .i64 (d : Int), .int .i64 z] w fun e w' => ElIs w p A l.length ct l a0 (elP l z F d i) e w'
theorem tok_attrs {w : World} {l : List TokD} {i : Nat} (hi : i < l.length) {ad : Addr} {qa : Option Addr} {ca : Nat} {p : Nat} (b2 : w.cell? ((ad.add (i * 6)).add 2) = some (.slice qa l[i].al.length ca)) {L : List Nat} (hL : LeftOut w p (some ad) l L) : AttrsAt (holes w L) qa l[i].al := by
 obtain ⟨a', q', c', ha, ⟨_, _, e2, _⟩, hA'⟩ := hL.2.2 i hi
 injection ha with ha
 subst ha
 have e3 := (holes_cell e2).1.symm.trans b2
 injection e3 with e3
 injection e3 with e3
 rw [← e3]
 exact hA'
theorem el_bound (l : List TokD) (z : Int) : ∀ F : Nat, (∀ d i, i < l.length → 2 * (l.length - i) ≤ F → (elP l z F d i).2.2.2 = 0 → i < (elP l z F d i).2.1 ∧ (elP l z F d i).2.1 ≤ l.length ∧ (elP l z F d i).1.tx.size = 0) ∧
  (∀ d t i kids, i ≤ l.length → 2 * (l.length - i) + 1 ≤ F → (kidsP l z F d t i kids).2.2.2 = 0 → i < (kidsP l z F d t i kids).2.1 ∧ (kidsP l z F d t i kids).2.1 ≤ l.length ∧ (kidsP l z F d t i kids).1.tx.size = 0)
 | 0 => ⟨fun d i h hF _ => absurd hF (by omega), fun d t i kids h hF _ => absurd hF (by omega)⟩
 | F + 1 => by
  obtain ⟨IH1, IH2⟩ := el_bound l z F
  refine ⟨fun d i hi hF he => ?_, fun d t i kids hi hF he => ?_⟩
  ·rw [elP, List.getElem?_eq_getElem hi] at he ⊢
   simp only at he ⊢
   split
   ·rename_i h1
    rw [if_pos h1] at he
    exact absurd (show (9 : Int) = 0 from he) (by decide)
   ·rename_i h1
    rw [if_neg h1] at he
    split
    ·exact ⟨Nat.lt_succ_self i, hi, rfl⟩
    ·rename_i h2
     rw [if_neg h2] at he
     have := IH2 d l[i] (i + 1) [] (by omega) (by omega) he
     omega
  ·rw [kidsP] at he ⊢
   cases hu : l[i]? with
   | none => rw [hu] at he; exact absurd (show (8 : Int) = 0 from he) (by decide)
   | some u =>
    have hlt := (List.getElem?_eq_some_iff.1 hu).1
    rw [hu] at he
    simp only at he ⊢
    split
    ·rename_i h1
     rw [if_pos h1] at he
     split
     ·rename_i h2
      rw [if_pos h2] at he
      exact absurd (show (14 : Int) = 0 from he) (by decide)
     ·exact ⟨Nat.lt_succ_self i, hlt, rfl⟩
    ·rename_i h1
     rw [if_neg h1] at he
     split
     ·rename_i h2
      rw [if_pos h2] at he
      split
      ·rename_i h3
       rw [if_pos h3] at he
       exact absurd he h3
      ·rename_i h3
       rw [if_neg h3] at he
       have h4 := IH1 (d + 1) i hlt (by omega) (Classical.byContradiction h3)
       have := IH2 d t _ _ h4.2.1 (by omega) he
       omega
     ·rename_i h2
      rw [if_neg h2] at he
      have := IH2 d t (i + 1) _ (by omega) (by omega) he
      omega
theorem char_is (w : World) (u : TokD) : NodeIs w (charN u) (.agg #[.int .i64 1, .string ⟨#[]⟩, .string ⟨#[]⟩, .slice none 0 0, .slice none 0 0, .string (oB u.tx), .int .i64 u.at']) := by
 rw [charN, NodeIs]
 exact ⟨none, 0, none, 0, rfl, fun i h => absurd h (Nat.not_lt_zero _), by rw [KidsAt]; trivial⟩
theorem addChar_more (ks : List NodeD) (k : NodeD) (u : TokD) (h : k.kind = 1) : addChar (ks ++ [k]) u = ks ++ [moreN u k] := by
 unfold addChar
 rw [List.getLast?_concat]
 simp only
 rw [if_pos h, List.dropLast_concat]
theorem addChar_new (ks : List NodeD) (k : NodeD) (u : TokD) (h : ¬ k.kind = 1) : addChar (ks ++ [k]) u = ks ++ [k] ++ [charN u] := by
 unfold addChar
 rw [List.getLast?_concat]
 simp only
 rw [if_neg h]
theorem moreN_tx (u : TokD) (k : NodeD) : (moreN u k).tx.size = k.tx.size + u.tx.length := by
 cases k
 show (_ ++ oB u.tx).size = _
 rw [ByteArray.size_append, oBz]
 rfl
theorem sevK2 (R : Nat) (w : World) (u0 u1 u2 u3 u4 u5 u6 : Value) : Keep R w (((((((w.setCell ⟨R, 0, none⟩ u0).setCell ⟨R, 1, none⟩ u1).setCell ⟨R, 2, none⟩ u2).setCell ⟨R, 3, none⟩ u3).setCell ⟨R, 4, none⟩ u4).setCell ⟨R, 5, none⟩ u5).setCell ⟨R, 6, none⟩ u6) := (((((((Keep.refl R w).set 0 u0).set 1 u1).set 2 u2).set 3 u3).set 4 u4).set 5 u5).set 6 u6
theorem par_sev {w : World} {p : Nat} {A : Option Addr} {n c : Nat} {i a e : Int} (h : Par w p A n c i a e) {R : Nat} (hR : R ≠ p) (u0 u1 u2 u3 u4 u5 u6 : Value) : Par (((((((w.setCell ⟨R, 0, none⟩ u0).setCell ⟨R, 1, none⟩ u1).setCell ⟨R, 2, none⟩ u2).setCell ⟨R, 3, none⟩ u3).setCell ⟨R, 4, none⟩ u4).setCell ⟨R, 5, none⟩ u5).setCell ⟨R, 6, none⟩ u6) p A n c i a e :=
 ((((((h.own (q := ⟨R, 0, none⟩) hR _).own (q := ⟨R, 1, none⟩) hR _).own (q := ⟨R, 2, none⟩) hR _).own (q := ⟨R, 3, none⟩) hR _).own (q := ⟨R, 4, none⟩) hR _).own (q := ⟨R, 5, none⟩) hR _).own (q := ⟨R, 6, none⟩) hR _
theorem keep_sev {p R : Nat} {w0 w : World} (h : Keep p w0 w) (hR : w0.heap.size ≤ R) (u0 u1 u2 u3 u4 u5 u6 : Value) : Keep p w0 (((((((w.setCell ⟨R, 0, none⟩ u0).setCell ⟨R, 1, none⟩ u1).setCell ⟨R, 2, none⟩ u2).setCell ⟨R, 3, none⟩ u3).setCell ⟨R, 4, none⟩ u4).setCell ⟨R, 5, none⟩ u5).setCell ⟨R, 6, none⟩ u6) :=
 ((((((h.own (q := ⟨R, 0, none⟩) hR _).own (q := ⟨R, 1, none⟩) hR _).own (q := ⟨R, 2, none⟩) hR _).own (q := ⟨R, 3, none⟩) hR _).own (q := ⟨R, 4, none⟩) hR _).own (q := ⟨R, 5, none⟩) hR _).own (q := ⟨R, 6, none⟩) hR _
set_option maxHeartbeats 32000000 in
theorem el_step (l : List TokD) (z : Int) (hln : l.length ≤ 10000) (htx : ∀ u ∈ l, u.tx.length ≤ 100050004) (F : Nat) (IH : ∀ G, G ≤ F → ElC l z G) : ElC l z (F + 1) := by
 intro d i p A ct a0 w hi hf hd hP hT
 have HTX := Lib.hid htx
 have HLO0 := Lib.hid (show LeftOut w p A l [p] from ⟨fun b hb => by rw [List.mem_singleton.1 hb]; exact hP.lt, by simp, hT⟩)
 clear htx
 have hpz := hP.lt
 obtain ⟨ad, qa, ca, rfl, ⟨b0, b1, b2, b3, b4, b5⟩, -⟩ := hT i hi
 replace b0 := (holes_cell b0).1
 replace b1 := (holes_cell b1).1
 replace b2 := (holes_cell b2).1
 replace b3 := (holes_cell b3).1
 replace b4 := (holes_cell b4).1
 replace b5 := (holes_cell b5).1
 have HAL := Lib.hid (fun L hL => tok_attrs hi (p := p) b2 (L := L) hL)
 have hE : elP l z (F + 1) d i = if d > 100 then (zeroN, i, l[i].at', 9) else if l[i].em then (elemN l[i] [], i + 1, 0, 0) else kidsP l z F d l[i] (i + 1) [] := by
  rw [elP, List.getElem?_eq_getElem hi]
 obtain ⟨t, ht⟩ : ∃ t, l[i] = t := ⟨_, rfl⟩
 rw [ht] at b0 b1 b2 b3 b4 b5 HAL hE
 generalize elP l z (F + 1) d i = R at hE ⊢
 have HE := Lib.hid hE
 have HT := Lib.hid hT
 have HP := Lib.hid hP
 obtain ⟨cc, hcc⟩ : ∃ cc, ad.add (i * 6) = cc := ⟨_, rfl⟩
 rw [hcc] at b0 b1 b2 b3 b4 b5
 simp only [Addr.add, Nat.reduceEqDiff, ↓reduceIte] at b1 b2 b3 b4 b5
 obtain ⟨W0, hW0⟩ : ∃ W0, W0 = w.alloc (.cells nodeZs 25) := ⟨_, rfl⟩
 have P0 : Blk W0 w.heap.size nodeZs 25 := by rw [hW0]; exact Blk.new w _ _
 have B0 : Below w.heap.size w W0 := by rw [hW0]; exact (Below.refl _ _).alloc (Nat.le_refl _) _
 have hPc := hP.cells
 have c0 := (B0.cell (p := ⟨p, 0, none⟩) hpz).trans hPc.1
 have c1 := (B0.cell (p := ⟨p, 1, none⟩) hpz).trans hPc.2.1
 have hzc := kbl b0
 replace b0 := (B0.cell (kbl b0)).trans b0
 replace b1 := (B0.cell (kbl b1)).trans b1
 replace b2 := (B0.cell (kbl b2)).trans b2
 replace b3 := (B0.cell (kbl b3)).trans b3
 replace b4 := (B0.cell (kbl b4)).trans b4
 replace b5 := (B0.cell (kbl b5)).trans b5
 have hz0 : W0.heap.size = w.heap.size + 1 := by rw [hW0]; simp
 have hiz : (i : Int) < (l.length : Int) := by omega
 have hi0 : (0 : Int) ≤ (i : Int) := by omega
 have HP0 := Lib.hid P0
 have HB0 := Lib.hid B0
 clear hE hT hP hPc P0 B0
 go_enter Tryz.func33, Tryz.ntmps33
 go_upto_region 1 with fail
 simp only [nodeZs] at hW0
 simp only [← hW0]
 clear hW0
 have hSB : ∀ w', Below W0.heap.size W0 w' → (w'.cell? ⟨p, 0, none⟩ = some (.slice (some ad) l.length ct) ∧ w'.cell? ⟨p, 1, none⟩ = some (.int .i64 (i : Int)) ∧ w'.cell? cc = some (.int .i64 t.kind) ∧ w'.cell? ⟨cc.block, cc.off + 1, none⟩ = some (.string (oB t.nm)) ∧ w'.cell? ⟨cc.block, cc.off + 2, none⟩ = some (.slice qa t.al.length ca) ∧ w'.cell? ⟨cc.block, cc.off + 3, none⟩ = some (.bool t.em) ∧ w'.cell? ⟨cc.block, cc.off + 4, none⟩ = some (.string (oB t.tx)) ∧ w'.cell? ⟨cc.block, cc.off + 5, none⟩ = some (.int .i64 t.at')) := fun w' hb => ⟨(hb.cell (kbl c0)).trans c0, (hb.cell (kbl c1)).trans c1, (hb.cell (kbl b0)).trans b0, (hb.cell (kbl b1)).trans b1, (hb.cell (kbl b2)).trans b2, (hb.cell (kbl b3)).trans b3, (hb.cell (kbl b4)).trans b4, (hb.cell (kbl b5)).trans b5⟩
 have bR : Below W0.heap.size W0 W0 := Below.refl _ _
 have bD : Below W0.heap.size W0 W0.drew := bR.drew
 have hS0 := hSB _ bD
 have hSa : ∀ o, _ := fun o : Obj => hSB _ ((bR.alloc bR.size o).drew)
 have hSs : ∀ o u0 u1 u2 u3 u4 u5, _ := fun (o : Obj) (u0 u1 u2 u3 u4 u5 : Value) => hSB ((((((((W0.alloc o).setCell ⟨W0.heap.size, 0, none⟩ u0).setCell ⟨W0.heap.size, 1, none⟩ u1).setCell ⟨W0.heap.size, 2, none⟩ u2).setCell ⟨W0.heap.size, 3, none⟩ u3).setCell ⟨W0.heap.size, 4, none⟩ u4).setCell ⟨W0.heap.size, 5, none⟩ u5).drew) (((((((((bR.alloc bR.size o).setCell (p := ⟨W0.heap.size, 0, none⟩) (Nat.le_refl _) u0).setCell (p := ⟨W0.heap.size, 1, none⟩) (Nat.le_refl _) u1).setCell (p := ⟨W0.heap.size, 2, none⟩) (Nat.le_refl _) u2).setCell (p := ⟨W0.heap.size, 3, none⟩) (Nat.le_refl _) u3).setCell (p := ⟨W0.heap.size, 4, none⟩) (Nat.le_refl _) u4).setCell (p := ⟨W0.heap.size, 5, none⟩) (Nat.le_refl _) u5).drew))
 clear hSB
 go_region_held3 (fun w' => (w'.cell? ⟨p, 0, none⟩ = some (.slice (some ad) l.length ct) ∧ w'.cell? ⟨p, 1, none⟩ = some (.int .i64 (i : Int)) ∧ w'.cell? cc = some (.int .i64 t.kind) ∧ w'.cell? ⟨cc.block, cc.off + 1, none⟩ = some (.string (oB t.nm)) ∧ w'.cell? ⟨cc.block, cc.off + 2, none⟩ = some (.slice qa t.al.length ca) ∧ w'.cell? ⟨cc.block, cc.off + 3, none⟩ = some (.bool t.em) ∧ w'.cell? ⟨cc.block, cc.off + 4, none⟩ = some (.string (oB t.tx)) ∧ w'.cell? ⟨cc.block, cc.off + 5, none⟩ = some (.int .i64 t.at'))) (first | with_reducible exact hS0 | with_reducible exact hSa _ | with_reducible exact hSs _ _ _ _ _ _ _) (fail)
 clear hS0 hSa hSs bD bR
 rename_i hHeld
 clear hHeld
 have HT1 := Lib.hid (show Keep p w (W0.alloc (.cells #[.int .i64 t.kind, .string (oB t.nm), .slice qa t.al.length ca, .bool t.em, .string (oB t.tx), .int .i64 t.at'] 73)).drew from ((Keep.of HB0.out).alloc _).drew)
 have HP1 := Lib.hid (show Par (W0.alloc (.cells #[.int .i64 t.kind, .string (oB t.nm), .slice qa t.al.length ca, .bool t.em, .string (oB t.tx), .int .i64 t.at'] 73)).drew p (some ad) l.length ct (i : Int) a0 0 from (HP.out.keep HB0.out).keep ((Below.refl _ _).alloc (Nat.le_refl _) _).drew)
 have HR1 := Lib.hid (show Blk (W0.alloc (.cells #[.int .i64 t.kind, .string (oB t.nm), .slice qa t.al.length ca, .bool t.em, .string (oB t.tx), .int .i64 t.at'] 73)).drew w.heap.size nodeZs 25 from HP0.out.more ((Below.refl _ _).alloc (Nat.le_refl _) _).drew)
 have hK1 : Blk (W0.alloc (.cells #[.int .i64 t.kind, .string (oB t.nm), .slice qa t.al.length ca, .bool t.em, .string (oB t.tx), .int .i64 t.at'] 73)).drew (w.heap.size + 1) #[.int .i64 t.kind, .string (oB t.nm), .slice qa t.al.length ca, .bool t.em, .string (oB t.tx), .int .i64 t.at'] 73 := by
  have := Blk.new W0 #[.int .i64 t.kind, .string (oB t.nm), .slice qa t.al.length ca, .bool t.em, .string (oB t.tx), .int .i64 t.at'] 73
  rw [hz0] at this
  exact this
 have hz1 : (W0.alloc (.cells #[.int .i64 t.kind, .string (oB t.nm), .slice qa t.al.length ca, .bool t.em, .string (oB t.tx), .int .i64 t.at'] 73)).drew.heap.size = w.heap.size + 2 := by simp [hz0]
 generalize (W0.alloc (.cells #[.int .i64 t.kind, .string (oB t.nm), .slice qa t.al.length ca, .bool t.em, .string (oB t.tx), .int .i64 t.at'] 73)).drew = W1 at HT1 HP1 HR1 hK1 hz1 ⊢
 clear c0 c1 b0 b1 b2 b3 b4 b5 hz0 HP0 HB0 hcc hzc
 have hRp : w.heap.size ≠ p := by omega
 by_cases hd1 : 100 < d
 ·have hd2 : (100 : Int) < (d : Int) := by omega
  have HE2 := Lib.hid (HE.out.trans (if_pos hd1))
  have e5 : W1.cell? ⟨w.heap.size + 1, 5, none⟩ = some (.int .i64 t.at') := hK1.cell 5
  clear hd1 HE
  go_wp2_with fail
  refine (tref_fail p (some ad) l.length ct (i : Int) a0 0 t.at' 9 W1 (HP1.out)).mono ?_
  rintro e w9 ⟨he9, hP9, k9⟩
  replace he9 : e = .returned (.agg #[.int .i64 0, .string ⟨#[]⟩, .string ⟨#[]⟩, .slice none 0 0, .slice none 0 0, .string ⟨#[]⟩, .int .i64 0]) := he9
  subst he9
  have R9 := (HR1.out).keep k9 (by omega)
  have K9 := (HT1.out).trans k9
  obtain ⟨⟨r0, r1, r2, r3, r4, r5, r6⟩, g0, g1, g2, g3, g4, g5, g6⟩ := R9.seven
  have HK9 := Lib.hid K9
  have HP9 := Lib.hid hP9
  clear R9 K9 k9 hP9
  generalize hq : w.heap.size = hs at r0 r1 r2 r3 r4 r5 r6 g0 g1 g2 g3 g4 g5 g6 hRp ⊢
  have HQ := Lib.hid hq
  clear hq
  go_wp2
  exact bodyPost_ret (v := zeroV) (by simp [results, Tryz.results33, go_sem, cSs, r0, r1, r2, r3, r4, r5, r6, zeroV]) rfl (by rw [HE2.out]; exact ⟨zeroV, rfl, ⟨_, _, par_sev HP9.out hRp _ _ _ _ _ _ _, fun e => absurd (show (9 : Int) = 0 from e) (by decide), fun _ => rfl⟩, keep_sev HK9.out (by have := HQ.out; omega) _ _ _ _ _ _ _, fun L _ => zero_is _⟩)
 ·have hd2 : ¬ (100 : Int) < (d : Int) := by omega
  have HE2 := Lib.hid (HE.out.trans (if_neg hd1))
  have t1 : W1.cell? ⟨w.heap.size + 1, 1, none⟩ = some (.string (oB t.nm)) := hK1.cell 1
  have t2 : W1.cell? ⟨w.heap.size + 1, 2, none⟩ = some (.slice qa t.al.length ca) := hK1.cell 2
  have t5 : W1.cell? ⟨w.heap.size + 1, 5, none⟩ = some (.int .i64 t.at') := hK1.cell 5
  have p1 := HP1.out.cells.2.1
  have q1 := HP1.out.frz 1
  have hw1 : IntKind.i64.wrap ((i : Int) + 1) = (i : Int) + 1 := wrap_small _ (by omega) (by omega)
  obtain ⟨W3, hW3⟩ : ∃ W3, W3 = (W1.setCell ⟨p, 1, none⟩ (.int .i64 ((i : Int) + 1))).alloc (.cells #[.int .i64 0, .string ⟨#[]⟩, .string (oB t.nm), .slice qa t.al.length ca, .slice none 0 0, .string ⟨#[]⟩, .int .i64 t.at'] 25) := ⟨_, rfl⟩
  have hE3 : ElR w p (some ad) l.length ct l w.heap.size t qa ca a0 (i + 1) [] (.slice none 0 0) [] W3 := by
   have hsz : (W1.setCell ⟨p, 1, none⟩ (.int .i64 ((i : Int) + 1))).heap.size = w.heap.size + 2 := by simp [hz1]
   have hal : Below (W1.setCell ⟨p, 1, none⟩ (.int .i64 ((i : Int) + 1))).heap.size (W1.setCell ⟨p, 1, none⟩ (.int .i64 ((i : Int) + 1))) W3 := by rw [hW3]; exact (Below.refl _ _).alloc (Nat.le_refl _) _
   refine ⟨rfl, hpz, ?_, ?_, ?_, ?_, World.ownsRow_nil _ _ _ _, fun L _ => rfl, ?_⟩
   ·rw [show ((i + 1 : Nat) : Int) = (i : Int) + 1 by omega]
    exact (HP1.out.set1 _).keep hal
   ·exact (HR1.out.own (q := ⟨p, 1, none⟩) (by show p ≠ _; omega) _).more hal
   ·exact (hK1.own (q := ⟨p, 1, none⟩) (by show p ≠ _; omega) _).more hal
   ·rw [hW3]
    have := Blk.new (W1.setCell ⟨p, 1, none⟩ (.int .i64 ((i : Int) + 1))) #[.int .i64 0, .string ⟨#[]⟩, .string (oB t.nm), .slice qa t.al.length ca, .slice none 0 0, .string ⟨#[]⟩, .int .i64 t.at'] 25
    rwa [hsz] at this
   ·exact (HT1.out.set 1 _).more hal
  clear hd1 HE HP1 HR1 hK1 HT1
  go_upto_region 6 with fail
  simp only [← hW3]
  clear hW3 t1 t2 t5 p1 q1 hw1 hz1
  have t3 : W3.cell? ⟨w.heap.size + 1, 3, none⟩ = some (.bool t.em) := hE3.tok.cell 3
  cases hem : t.em with
  | true =>
   rw [hem] at t3
   have HE3 := Lib.hid (HE2.out.trans (if_pos hem))
   clear HE2
   obtain ⟨⟨r0, r1, r2, r3, r4, r5, r6⟩, g0, g1, g2, g3, g4, g5, g6⟩ := (hE3).res.seven
   have n0 : (W3).cell? ⟨w.heap.size + 2, 0, none⟩ = some (.int .i64 0) := (hE3).nod.cell 0
   have n1 : (W3).cell? ⟨w.heap.size + 2, 1, none⟩ = some (.string ⟨#[]⟩) := (hE3).nod.cell 1
   have n2 : (W3).cell? ⟨w.heap.size + 2, 2, none⟩ = some (.string (oB t.nm)) := (hE3).nod.cell 2
   have n3 : (W3).cell? ⟨w.heap.size + 2, 3, none⟩ = some (.slice qa t.al.length ca) := (hE3).nod.cell 3
   have n4 : (W3).cell? ⟨w.heap.size + 2, 4, none⟩ = some (.slice none 0 0) := (hE3).nod.cell 4
   have n5 : (W3).cell? ⟨w.heap.size + 2, 5, none⟩ = some (.string ⟨#[]⟩) := (hE3).nod.cell 5
   have n6 : (W3).cell? ⟨w.heap.size + 2, 6, none⟩ = some (.int .i64 t.at') := (hE3).nod.cell 6
   have HEL := Lib.hid (hE3)
   go_wp2
   exact bodyPost_ret (v := .agg #[.int .i64 0, .string ⟨#[]⟩, .string (oB t.nm), .slice qa t.al.length ca, (.slice none 0 0), .string ⟨#[]⟩, .int .i64 t.at']) (by simp [results, Tryz.results33, go_sem, cSs, r0, r1, r2, r3, r4, r5, r6]) rfl (by rw [HE3.out]; exact ⟨_, rfl, ⟨_, _, par_sev HEL.out.par hRp _ _ _ _ _ _ _, fun _ => ⟨rfl, rfl⟩, fun e => absurd rfl e⟩, keep_sev HEL.out.keep (Nat.le_refl _) _ _ _ _ _ _ _, fun L hL => node_res (HEL.out.node hL (HAL.out L hL)) (sevK2 _ _ _ _ _ _ _ _ _)⟩)
  | false =>
   rw [hem] at t3
   have HE3 := Lib.hid (HE2.out.trans (if_neg (by rw [hem]; decide)))
   have HL3 := Lib.hid hE3
   clear HE2 hE3
   go_wp2
   go_loopw [] (fun wr => ∃ (j G : Nat) (kids : List NodeD) (vk : Value) (xs : List Value), j ≤ l.length ∧ 2 * (l.length - j) + 1 ≤ G ∧ G ≤ F ∧ R = kidsP l z G d t j kids ∧ kids.length ≤ j ∧ (∀ k ∈ kids, k.tx.size ≤ j * 100050004) ∧ (kids = [] → vk = .slice none 0 0) ∧ ElR w p (some ad) l.length ct l w.heap.size t qa ca a0 j kids vk xs wr) (fun wr => l.length - (intOf ((wr.cell? ⟨p, 1, none⟩).getD (.bool false))).toNat)
   case atStart => exact ⟨i + 1, F, [], _, [], by omega, by omega, Nat.le_refl _, HE3.out, Nat.zero_le _, (fun k hk => by cases hk), (fun _ => rfl), HL3.out⟩
   case round =>
    clear HE3 HL3 t3 hem
    obtain ⟨j, G, kids, vk, xs, hj, hG, hGF, hrel, hkj, hkt, hkn, hL⟩ := hrel
    obtain ⟨Ak, Ck, rfl⟩ := own_form hL.row
    have HKT := Lib.hid hkt
    have HKN := Lib.hid hkn
    obtain ⟨G, rfl⟩ : ∃ G', G = G' + 1 := ⟨G - 1, by omega⟩
    have c0 := hL.par.cells.1
    have c1 := hL.par.cells.2.1
    have HL := Lib.hid hL
    have HREL := Lib.hid hrel
    have hj6 : (j : Int) ≤ 1000000 := by omega
    clear hL hrel hkt hkn
    have M1 := Lib.hid c1
    by_cases hlt : j < l.length
    ·have hjz : (j : Int) < (l.length : Int) := by omega
     go_wp2
     go_quiet (fail)
     have hL1 := HL.out.below (below_drewN (Below.refl wr.heap.size wr) nq)
     generalize wr.drewN nq = wq at hL1 ⊢
     obtain ⟨ad', qu, cu, had, ⟨b0, b1, b2, b3, b4, b5⟩, -⟩ := HT.out j hlt
     injection had with had
     subst had
     have hkey : ∀ x v, (holes w [p]).cell? x = some v → wq.cell? x = some v := fun x v h => (hL1.keep.cell (holes_cell h).2.2 (by have := (holes_cell h).2.1; simpa using this)).trans (holes_cell h).1
     replace b0 := hkey _ _ b0
     replace b1 := hkey _ _ b1
     replace b2 := hkey _ _ b2
     replace b3 := hkey _ _ b3
     replace b4 := hkey _ _ b4
     replace b5 := hkey _ _ b5
     have hrel := HREL.out
     rw [kidsP, List.getElem?_eq_getElem hlt] at hrel
     have hut := HTX.out l[j] (List.getElem_mem _)
     obtain ⟨u, hu⟩ : ∃ u, l[j] = u := ⟨_, rfl⟩
     rw [hu] at b0 b1 b2 b3 b4 b5 hrel hut
     simp only at hrel
     have HRL := Lib.hid hrel
     obtain ⟨dd, hdd⟩ : ∃ dd, ad.add (j * 6) = dd := ⟨_, rfl⟩
     rw [hdd] at b0 b1 b2 b3 b4 b5
     simp only [Addr.add, Nat.reduceEqDiff, ↓reduceIte] at b1 b2 b3 b4 b5
     clear hkey HREL hrel c0 c1
     have c0 := hL1.par.cells.1
     have c1 := hL1.par.cells.2.1
     have hj0 : (0 : Int) ≤ (j : Int) := by omega
     have hSB : ∀ w', Below wq.heap.size wq w' → (w'.cell? ⟨p, 0, none⟩ = some (.slice (some ad) l.length ct) ∧ w'.cell? ⟨p, 1, none⟩ = some (.int .i64 (j : Int)) ∧ w'.cell? dd = some (.int .i64 u.kind) ∧ w'.cell? ⟨dd.block, dd.off + 1, none⟩ = some (.string (oB u.nm)) ∧ w'.cell? ⟨dd.block, dd.off + 2, none⟩ = some (.slice qu u.al.length cu) ∧ w'.cell? ⟨dd.block, dd.off + 3, none⟩ = some (.bool u.em) ∧ w'.cell? ⟨dd.block, dd.off + 4, none⟩ = some (.string (oB u.tx)) ∧ w'.cell? ⟨dd.block, dd.off + 5, none⟩ = some (.int .i64 u.at')) := fun w' hb => ⟨(hb.cell (kbl c0)).trans c0, (hb.cell (kbl c1)).trans c1, (hb.cell (kbl b0)).trans b0, (hb.cell (kbl b1)).trans b1, (hb.cell (kbl b2)).trans b2, (hb.cell (kbl b3)).trans b3, (hb.cell (kbl b4)).trans b4, (hb.cell (kbl b5)).trans b5⟩
     have bR : Below wq.heap.size wq wq := Below.refl _ _
     have hS0 := hSB _ bR.drew
     have hSa : ∀ o, _ := fun o : Obj => hSB _ ((bR.alloc bR.size o).drew)
     clear hSB
     go_wp2
     go_region_held3 (fun w' => (w'.cell? ⟨p, 0, none⟩ = some (.slice (some ad) l.length ct) ∧ w'.cell? ⟨p, 1, none⟩ = some (.int .i64 (j : Int)) ∧ w'.cell? dd = some (.int .i64 u.kind) ∧ w'.cell? ⟨dd.block, dd.off + 1, none⟩ = some (.string (oB u.nm)) ∧ w'.cell? ⟨dd.block, dd.off + 2, none⟩ = some (.slice qu u.al.length cu) ∧ w'.cell? ⟨dd.block, dd.off + 3, none⟩ = some (.bool u.em) ∧ w'.cell? ⟨dd.block, dd.off + 4, none⟩ = some (.string (oB u.tx)) ∧ w'.cell? ⟨dd.block, dd.off + 5, none⟩ = some (.int .i64 u.at'))) (first | with_reducible exact hS0 | with_reducible exact hSa _) (fail)
     clear hS0 hSa bR
     rename_i hHeld
     clear hHeld
     have bU : Below wq.heap.size wq (wq.alloc (.cells #[.int .i64 u.kind, .string (oB u.nm), .slice qu u.al.length cu, .bool u.em, .string (oB u.tx), .int .i64 u.at'] 73)).drew := ((Below.refl _ _).alloc (Nat.le_refl _) _).drew
     have hL4 := hL1.below bU
     have hU : Blk (wq.alloc (.cells #[.int .i64 u.kind, .string (oB u.nm), .slice qu u.al.length cu, .bool u.em, .string (oB u.tx), .int .i64 u.at'] 73)).drew wq.heap.size #[.int .i64 u.kind, .string (oB u.nm), .slice qu u.al.length cu, .bool u.em, .string (oB u.tx), .int .i64 u.at'] 73 := Blk.new wq _ _
     have hUz := hL1.lt
     generalize (wq.alloc (.cells #[.int .i64 u.kind, .string (oB u.nm), .slice qu u.al.length cu, .bool u.em, .string (oB u.tx), .int .i64 u.at'] 73)).drew = W4 at hL4 hU ⊢
     clear bU hL1 c0 c1 b0 b1 b2 b3 b4 b5 hdd
     generalize wq.heap.size = U at hU hUz ⊢
     have u0 : W4.cell? ⟨U, 0, none⟩ = some (.int .i64 u.kind) := hU.cell 0
     have u1 : W4.cell? ⟨U, 1, none⟩ = some (.string (oB u.nm)) := hU.cell 1
     have u4 : W4.cell? ⟨U, 4, none⟩ = some (.string (oB u.tx)) := hU.cell 4
     have u5 : W4.cell? ⟨U, 5, none⟩ = some (.int .i64 u.at') := hU.cell 5
     have t1 : W4.cell? ⟨w.heap.size + 1, 1, none⟩ = some (.string (oB t.nm)) := hL4.tok.cell 1
     have p1 := hL4.par.cells.2.1
     have q1 := hL4.par.frz 1
     have hw1 : IntKind.i64.wrap ((j : Int) + 1) = (j : Int) + 1 := wrap_small _ (by omega) (by omega)
     have HL4 := Lib.hid hL4
     have HU := Lib.hid hU
     clear hL4 hU
     by_cases k2 : u.kind = 2
     ·rw [k2] at u0
      clear u4
      by_cases hnm : u.nm = t.nm
      ·have HRM := Lib.hid ((HRL.out.trans (if_pos k2)).trans (if_neg (fun e => e hnm)))
       rw [hnm] at u1
       obtain ⟨W5, hW5⟩ : ∃ W5, W5 = W4.setCell ⟨p, 1, none⟩ (.int .i64 ((j : Int) + 1)) := ⟨_, rfl⟩
       have hL5 : ElR w p (some ad) l.length ct l w.heap.size t qa ca a0 (j + 1) kids (.slice Ak kids.length Ck) xs W5 := HL4.out.keeps (by rw [hW5]; exact (Keep.refl p W4).set 1 _) (by rw [hW5, show ((j + 1 : Nat) : Int) = (j : Int) + 1 by omega]; exact HL4.out.par.set1 _)
       clear HRL HL4 HU k2 hnm
       go_upto_region 14 with fail
       simp only [← hW5]
       clear hW5 u0 u1 u5 t1 p1 q1
       obtain ⟨⟨r0, r1, r2, r3, r4, r5, r6⟩, g0, g1, g2, g3, g4, g5, g6⟩ := (hL5).res.seven
       have n0 : (W5).cell? ⟨w.heap.size + 2, 0, none⟩ = some (.int .i64 0) := (hL5).nod.cell 0
       have n1 : (W5).cell? ⟨w.heap.size + 2, 1, none⟩ = some (.string ⟨#[]⟩) := (hL5).nod.cell 1
       have n2 : (W5).cell? ⟨w.heap.size + 2, 2, none⟩ = some (.string (oB t.nm)) := (hL5).nod.cell 2
       have n3 : (W5).cell? ⟨w.heap.size + 2, 3, none⟩ = some (.slice qa t.al.length ca) := (hL5).nod.cell 3
       have n4 : (W5).cell? ⟨w.heap.size + 2, 4, none⟩ = some (.slice Ak kids.length Ck) := (hL5).nod.cell 4
       have n5 : (W5).cell? ⟨w.heap.size + 2, 5, none⟩ = some (.string ⟨#[]⟩) := (hL5).nod.cell 5
       have n6 : (W5).cell? ⟨w.heap.size + 2, 6, none⟩ = some (.int .i64 t.at') := (hL5).nod.cell 6
       have HEL := Lib.hid (hL5)
       go_wp2
       exact bodyPost_ret (v := .agg #[.int .i64 0, .string ⟨#[]⟩, .string (oB t.nm), .slice qa t.al.length ca, (.slice Ak kids.length Ck), .string ⟨#[]⟩, .int .i64 t.at']) (by simp [results, Tryz.results33, go_sem, cSs, r0, r1, r2, r3, r4, r5, r6]) rfl (by rw [HRM.out]; exact ⟨_, rfl, ⟨_, _, par_sev HEL.out.par hRp _ _ _ _ _ _ _, fun _ => ⟨rfl, rfl⟩, fun e => absurd rfl e⟩, keep_sev HEL.out.keep (Nat.le_refl _) _ _ _ _ _ _ _, fun L hL => node_res (HEL.out.node hL (HAL.out L hL)) (sevK2 _ _ _ _ _ _ _ _ _)⟩)
      ·have HRM := Lib.hid ((HRL.out.trans (if_pos k2)).trans (if_pos hnm))
       have s1 := str_ne (ofBytes_ne hnm)
       have s2 := str_ne2 (ofBytes_ne hnm)
       have s3 := str_ne3 (ofBytes_ne hnm)
       clear HRL k2 hnm p1 q1
       go_wp2_with fail
       refine (tref_fail p (some ad) l.length ct (j : Int) a0 0 u.at' 14 W4 (HL4.out.par)).mono ?_
       rintro e w9 ⟨he9, hP9, k9⟩
       replace he9 : e = .returned (.agg #[.int .i64 0, .string ⟨#[]⟩, .string ⟨#[]⟩, .slice none 0 0, .slice none 0 0, .string ⟨#[]⟩, .int .i64 0]) := he9
       subst he9
       have R9 := (HL4.out.res).keep k9 (by omega)
       have K9 := (HL4.out.keep).trans k9
       obtain ⟨⟨r0, r1, r2, r3, r4, r5, r6⟩, g0, g1, g2, g3, g4, g5, g6⟩ := R9.seven
       have HK9 := Lib.hid K9
       have HP9 := Lib.hid hP9
       clear R9 K9 k9 hP9
       generalize hq : w.heap.size = hs at r0 r1 r2 r3 r4 r5 r6 g0 g1 g2 g3 g4 g5 g6 hRp ⊢
       have HQ := Lib.hid hq
       clear hq
       go_wp2
       exact bodyPost_ret (v := zeroV) (by simp [results, Tryz.results33, go_sem, cSs, r0, r1, r2, r3, r4, r5, r6, zeroV]) rfl (by rw [HRM.out]; exact ⟨zeroV, rfl, ⟨_, _, par_sev HP9.out hRp _ _ _ _ _ _ _, fun e => absurd (show (14 : Int) = 0 from e) (by decide), fun _ => rfl⟩, keep_sev HK9.out (by have := HQ.out; omega) _ _ _ _ _ _ _, fun L _ => zero_is _⟩)
     ·have k2b : (u.kind == 2) = false := by simpa using k2
      by_cases k1 : u.kind = 1
      ·have HRM := Lib.hid ((HRL.out.trans (if_neg k2)).trans (if_pos k1))
       rw [k1] at u0
       have hT4 : TokensAt (holes W4 [p]) (some ad) l := HT.out.go (Goes.keep HL4.out.keep (by simp))
       have HLO := Lib.hid (show LeftOut W4 p (some ad) l [p] from ⟨fun b hb => by rw [List.mem_singleton.1 hb]; exact HL4.out.par.lt, by simp, hT4⟩)
       have cE := IH G (by omega) (d + 1) j p (some ad) ct a0 W4 hlt (by omega) (by omega) HL4.out.par hT4
       rw [show ((d + 1 : Nat) : Int) = (d : Int) + 1 by omega] at cE
       have hwd : IntKind.i64.wrap ((d : Int) + 1) = (d : Int) + 1 := wrap_small _ (by omega) (by omega)
       have HB2 := Lib.hid ((el_bound l z G).1 (d + 1) j hlt (by omega))
       clear HRL HU k2 k2b k1 hT4 u1 u4 u5 t1 p1 q1 hw1 hUz HTX hut
       generalize elP l z G (d + 1) j = r1 at *
       obtain ⟨n1, j2, a2, e2⟩ := r1
       simp only at HRM HB2
       go_wp2_with fail
       refine cE.mono ?_
       rintro e w2 ⟨v, rfl, ⟨j1, a1, hP2, h0, h1⟩, kk2, hn2⟩
       simp only at hP2 h0 h1 hn2
       obtain ⟨xa, xc, xk, xd, rfl, -, -⟩ := (node_is _ n1 _).1 (hn2 _ HLO.out)
       have hk1 : ∀ y ∈ ([.int .i64 n1.kind, .string n1.sp, .string n1.nm, .slice xa n1.al.length xc, .slice xk n1.kids.length xd, .string n1.tx, .int .i64 n1.at'] : List Value), y.oneCell' = true := by
        intro y hy
        simp only [List.mem_cons, List.not_mem_nil, or_false] at hy
        rcases hy with rfl | rfl | rfl | rfl | rfl | rfl | rfl <;> rfl
       have HN2 := Lib.hid hn2
       clear hn2 cE
       obtain ⟨wq, hwq⟩ : ∃ wq, wq = w2.alloc (.cells #[.int .i64 n1.kind, .string n1.sp, .string n1.nm, .slice xa n1.al.length xc, .slice xk n1.kids.length xd, .string n1.tx, .int .i64 n1.at'] 25) := ⟨_, rfl⟩
       have bq : Below w2.heap.size w2 wq := by rw [hwq]; exact (Below.refl _ _).alloc (Nat.le_refl _) _
       have hKb : Blk wq w2.heap.size #[.int .i64 n1.kind, .string n1.sp, .string n1.nm, .slice xa n1.al.length xc, .slice xk n1.kids.length xd, .string n1.tx, .int .i64 n1.at'] 25 := by rw [hwq]; exact Blk.new w2 _ _
       have hP3 : Par wq p (some ad) l.length ct j1 a1 e2 := hP2.keep bq
       have hzk := HL4.out.lt
       have hkz := kk2.size
       have x0 : wq.cell? ⟨w2.heap.size, 0, none⟩ = some (.int .i64 n1.kind) := hKb.cell 0
       have x1 : wq.cell? ⟨w2.heap.size, 1, none⟩ = some (.string n1.sp) := hKb.cell 1
       have x2 : wq.cell? ⟨w2.heap.size, 2, none⟩ = some (.string n1.nm) := hKb.cell 2
       have x3 : wq.cell? ⟨w2.heap.size, 3, none⟩ = some (.slice xa n1.al.length xc) := hKb.cell 3
       have x4 : wq.cell? ⟨w2.heap.size, 4, none⟩ = some (.slice xk n1.kids.length xd) := hKb.cell 4
       have x5 : wq.cell? ⟨w2.heap.size, 5, none⟩ = some (.string n1.tx) := hKb.cell 5
       have x6 : wq.cell? ⟨w2.heap.size, 6, none⟩ = some (.int .i64 n1.at') := hKb.cell 6
       have y3 := hP3.cells.2.2.2
       have HBQ := Lib.hid bq
       have HP3 := Lib.hid hP3
       go_upto_region 17 with fail
       simp only [← hwq]
       clear hwq
       by_cases he2 : e2 = 0
       ·subst he2
        obtain ⟨rfl, rfl⟩ := h0 rfl
        have HRN := Lib.hid (HRM.out.trans (if_neg (fun q => q rfl)))
        obtain ⟨hj2, hj2l, hn1t⟩ := HB2.out rfl
        have hLq := HL4.out.keeps (j := j2) (kk2.more bq) hP3
        have HKQ := Lib.hid (fun L hL => ((HN2.out _ (HL4.out.outs hL)).go (Goes.below bq) : NodeIs (holes wq (L ++ [w.heap.size, w.heap.size + 1, w.heap.size + 2] ++ (Value.slice Ak kids.length Ck).ownBlock.toList)) n1 _))
        have hNod := hLq.nod
        have hNK : NK (w.heap.size + 2) w2.heap.size (.slice Ak kids.length Ck) (.int .i64 n1.kind) (.string n1.sp) (.string n1.nm) (.slice xa n1.al.length xc) (.slice xk n1.kids.length xd) (.string n1.tx) (.int .i64 n1.at') wq := ⟨hNod.cell 4, x0, x1, x2, x3, x4, x5, x6⟩
        have hNz := hNod.lt
        have hKz := hKb.lt
        have HLQ := Lib.hid hLq
        have HKU := Lib.hid (show ∀ k ∈ kids ++ [n1], k.tx.size ≤ j2 * 100050004 from fun k hk => by
         rcases List.mem_append.1 hk with hk | hk
         ·have := HKT.out k hk
          exact Nat.le_trans this (Nat.mul_le_mul_right _ (Nat.le_of_lt hj2))
         ·rw [List.mem_singleton.1 hk, hn1t]
          exact Nat.zero_le _)
        clear HRM HB2 h0 h1 hP2 hP3 kk2 bq hLq hKb HL4 HN2 HLO
        go_wp2
        clear x0 x1 x2 x3 x4 x5 x6 y3
        have hSB : ∀ w', Below wq.heap.size wq w' → NK (w.heap.size + 2) w2.heap.size (.slice Ak kids.length Ck) (.int .i64 n1.kind) (.string n1.sp) (.string n1.nm) (.slice xa n1.al.length xc) (.slice xk n1.kids.length xd) (.string n1.tx) (.int .i64 n1.at') w' := fun w' hb => hNK.below hb hNz hKz
        by_cases hk0 : kids = []
        ·subst hk0
         obtain ⟨hx1, hx2⟩ := HLQ.out.row
         have hxs : xs = [] := List.length_eq_zero_iff.1 (by rw [hx1]; rfl)
         subst hxs
         have hA := HKN.out rfl
         injection hA with hA1 hA2 hA3
         subst hA1
         subst hA3
         clear hx1 hx2
         have bR : Below wq.heap.size wq wq := Below.refl _ _
         have bA : ∀ o, Below wq.heap.size wq (wq.alloc o).drew := fun o => (bR.alloc bR.size o).drew
         have bAA : ∀ o o', Below wq.heap.size wq ((wq.alloc o).alloc o').drew := fun o o' => ((bR.alloc bR.size o).alloc (bR.alloc bR.size o).size o').drew
         have hS0 := hSB _ bR.drew
         have hE1 := (made_own wq wq.heap.size (Nat.le_refl _)).drew
         have hE1K := ((made_own wq wq.heap.size (Nat.le_refl _)).alloc (.cells #[.int .i64 n1.kind, .string n1.sp, .string n1.nm, .slice xa n1.al.length xc, .slice xk n1.kids.length xd, .string n1.tx, .int .i64 n1.at'] 25)).drew
         have hE2 : ((wq.alloc (.cells #[.int .i64 n1.kind, .string n1.sp, .string n1.nm, .slice xa n1.al.length xc, .slice xk n1.kids.length xd, .string n1.tx, .int .i64 n1.at'] 25)).alloc (.cells #[] 25)).drew.ownsRow wq.heap.size 25 7 (.slice (some ⟨wq.heap.size + 1, 0, none⟩) 0 0) 0 [] := by
          have := (made_own (wq.alloc (.cells #[.int .i64 n1.kind, .string n1.sp, .string n1.nm, .slice xa n1.al.length xc, .slice xk n1.kids.length xd, .string n1.tx, .int .i64 n1.at'] 25)) wq.heap.size (bR.alloc bR.size _).size).drew
          rwa [show (wq.alloc (.cells #[.int .i64 n1.kind, .string n1.sp, .string n1.nm, .slice xa n1.al.length xc, .slice xk n1.kids.length xd, .string n1.tx, .int .i64 n1.at'] 25)).heap.size = wq.heap.size + 1 by simp] at this
         have blkB : ((wq.alloc (.cells #[] 25)).alloc (.cells #[.int .i64 n1.kind, .string n1.sp, .string n1.nm, .slice xa n1.al.length xc, .slice xk n1.kids.length xd, .string n1.tx, .int .i64 n1.at'] 25)).drew.heap[wq.heap.size + 1]? = some (.cells #[.int .i64 n1.kind, .string n1.sp, .string n1.nm, .slice xa n1.al.length xc, .slice xk n1.kids.length xd, .string n1.tx, .int .i64 n1.at'] 25 (0, 0)) := by
          have := heap_alloc_new (wq.alloc (.cells #[] 25)) (.cells #[.int .i64 n1.kind, .string n1.sp, .string n1.nm, .slice xa n1.al.length xc, .slice xk n1.kids.length xd, .string n1.tx, .int .i64 n1.at'] 25)
          rwa [show (wq.alloc (.cells #[] 25)).heap.size = wq.heap.size + 1 by simp] at this
         have blkC : ((wq.alloc (.cells #[.int .i64 n1.kind, .string n1.sp, .string n1.nm, .slice xa n1.al.length xc, .slice xk n1.kids.length xd, .string n1.tx, .int .i64 n1.at'] 25)).alloc (.cells #[] 25)).drew.heap[wq.heap.size]? = some (.cells #[.int .i64 n1.kind, .string n1.sp, .string n1.nm, .slice xa n1.al.length xc, .slice xk n1.kids.length xd, .string n1.tx, .int .i64 n1.at'] 25 (0, 0)) := (heap_alloc_old (wq.alloc (.cells #[.int .i64 n1.kind, .string n1.sp, .string n1.nm, .slice xa n1.al.length xc, .slice xk n1.kids.length xd, .string n1.tx, .int .i64 n1.at'] 25)) (.cells #[] 25) (by simp)).trans (heap_alloc_new wq (.cells #[.int .i64 n1.kind, .string n1.sp, .string n1.nm, .slice xa n1.al.length xc, .slice xk n1.kids.length xd, .string n1.tx, .int .i64 n1.at'] 25))
         refine wp_region_late (S := fun w' => NK (w.heap.size + 2) w2.heap.size (.slice none 0 0) (.int .i64 n1.kind) (.string n1.sp) (.string n1.nm) (.slice xa n1.al.length xc) (.slice xk n1.kids.length xd) (.string n1.tx) (.int .i64 n1.at') w') (D := [7, 8]) (by kernel_rfl) ?_
         refine anyL_take (i := 1) (oi := { dst := some 100, op := Go.Op.fieldAddr 25 (Go.Operand.tmp 8) 4, type := 0, pos := "ref.go:60", after := #[], guard := none }) (v := ?_) rfl (by decide) (by kernel_rfl) (by kernel_rfl) (by kernel_rfl) (by kernel_rfl) (fun _ _ _ h => h) (Or.inl ⟨by rfl, ?_⟩) hS0 ?_
         rotate_left
         ·intro wz hSz
          obtain ⟨z0, z1, z2, z3, z4, z5, z6, z7⟩ := hSz
          go_simp
          (try with_reducible rfl)
         try simp only [Act.put, List.setIfInBounds_toArray, List.set_cons_zero, List.set_cons_succ]
         refine anyL_take (i := 2) (oi := { dst := some 101, op := Go.Op.load 23 (Go.Operand.tmp 100), type := 23, pos := "ref.go:60", after := #[{ on := 1, ground := Go.Ground.data }], guard := none }) (v := ?_) rfl (by decide) (by kernel_rfl) (by kernel_rfl) (by kernel_rfl) (by kernel_rfl) (fun _ _ _ h => h) (Or.inl ⟨by rfl, ?_⟩) hS0 ?_
         rotate_left
         ·intro wz hSz
          obtain ⟨z0, z1, z2, z3, z4, z5, z6, z7⟩ := hSz
          go_simp
          (try with_reducible rfl)
         try simp only [Act.put, List.setIfInBounds_toArray, List.set_cons_zero, List.set_cons_succ]
         refine anyL_take (i := 4) (oi := { dst := some 103, op := Go.Op.load 25 (Go.Operand.tmp 10), type := 25, pos := "ref.go:60", after := #[], guard := none }) (v := ?_) rfl (by decide) (by kernel_rfl) (by kernel_rfl) (by kernel_rfl) (by kernel_rfl) (fun _ _ _ h => h) (Or.inl ⟨by rfl, ?_⟩) hS0 ?_
         rotate_left
         ·intro wz hSz
          obtain ⟨z0, z1, z2, z3, z4, z5, z6, z7⟩ := hSz
          go_simp
          (try with_reducible rfl)
         try simp only [Act.put, List.setIfInBounds_toArray, List.set_cons_zero, List.set_cons_succ]
         refine aLr (rs := [0, 5]) (by kernel_rfl) (by simp) ?_
         refine AllL.cons (o := { dst := some 99, op := Go.Op.buildSlice 23 0 #[], type := 23, pos := "ref.go:60", after := #[], guard := none }) rfl (fun K hK => ?_) ?_
         ·go_simp
          refine hK _ _ (hSB _ (bA _)) ?_
          clear hK K
          try simp only [Act.put, List.setIfInBounds_toArray, List.set_cons_zero, List.set_cons_succ]
          refine aLr (rs := [3, 5]) (by kernel_rfl) (by simp) ?_
          refine AllL.cons (o := { dst := some 102, op := Go.Op.call { callee := Go.Callee.builtin Go.Builtin.append, args := #[Go.Operand.tmp 99, Go.Operand.tmp 101], argTypes := #[23, 23] }, type := 23, pos := "ref.go:60", after := #[{ on := 0, ground := Go.Ground.data }, { on := 2, ground := Go.Ground.data }], guard := none }) rfl (fun K hK => ?_) ?_
          ·go_simp
           refine hK _ _ (hSB _ (bA _)) ?_
           clear hK K
           try simp only [Act.put, List.setIfInBounds_toArray, List.set_cons_zero, List.set_cons_succ]
           refine aLr (rs := [5]) (by kernel_rfl) (by simp) ?_
           refine AllL.cons (o := { dst := some 104, op := Go.Op.buildSlice 23 1 #[(0, Go.Operand.tmp 103)], type := 23, pos := "ref.go:60", after := #[{ on := 4, ground := Go.Ground.data }], guard := none }) rfl (fun K hK => ?_) ?_
           ·go_simp
            refine hK _ _ (hSB _ (bAA _ _)) ?_
            clear hK K
            try simp only [Act.put, List.setIfInBounds_toArray, List.set_cons_zero, List.set_cons_succ]
            refine aLr (rs := [6]) (by kernel_rfl) (by simp) ?_
            refine AllL.cons (o := { dst := some 105, op := Go.Op.call { callee := Go.Callee.builtin Go.Builtin.append, args := #[Go.Operand.tmp 102, Go.Operand.tmp 104], argTypes := #[23, 23] }, type := 23, pos := "ref.go:60", after := #[{ on := 3, ground := Go.Ground.data }, { on := 5, ground := Go.Ground.data }, { on := 3, ground := Go.Ground.chain }], guard := none }) rfl (fun K hK => ?_) ?_
            ·refine step_one rfl (.tmp 102) (.tmp 104) rfl wq.heap.size (wq.heap.size + 1) 0 [] (.slice (some ⟨wq.heap.size, 0, none⟩) 0 0) (.int .i64 n1.kind) (.string n1.sp) (.string n1.nm) (.slice xa n1.al.length xc) (.slice xk n1.kids.length xd) (.string n1.tx) (.int .i64 n1.at') rfl rfl hE1K blkB hk1 (by decide) ((bAA _ _)).size ?_
             intro g5 cap5 w5 own5 grow5
             try go_simp
             have b5 := gb (bAA _ _) grow5 ((bAA _ _)).size (Nat.le_refl _)
             refine hK _ _ (hSB _ b5) ?_
             clear hK K
             try simp only [Act.put, List.setIfInBounds_toArray, List.set_cons_zero, List.set_cons_succ]
             refine anyL_takeD (i := 7) (oi := { dst := some 106, op := Go.Op.fieldAddr 25 (Go.Operand.tmp 8) 4, type := 0, pos := "ref.go:60", after := #[{ on := 0, ground := Go.Ground.phase }, { on := 1, ground := Go.Ground.phase }, { on := 2, ground := Go.Ground.phase }, { on := 3, ground := Go.Ground.phase }, { on := 4, ground := Go.Ground.phase }, { on := 5, ground := Go.Ground.phase }, { on := 6, ground := Go.Ground.phase }], guard := none }) (v := ?_) rfl (by decide) (by kernel_rfl) (by kernel_rfl) (by kernel_rfl) (fun _ _ _ h => h) (Or.inl ⟨by rfl, ?_⟩) ?_
             rotate_left
             ·intro wz _
              go_simp
              (try with_reducible rfl)
             try simp only [Act.put, List.setIfInBounds_toArray, List.set_cons_zero, List.set_cons_succ]
             refine aLr (rs := [8]) (by kernel_rfl) (by simp) ?_
             refine AllL.last (o := { dst := none, op := Go.Op.store 23 (Go.Operand.tmp 106) (Go.Operand.tmp 105), type := 0, pos := "ref.go:60", after := #[{ on := 7, ground := Go.Ground.data }, { on := 6, ground := Go.Ground.data }, { on := 6, ground := Go.Ground.chain }, { on := 0, ground := Go.Ground.phase }, { on := 1, ground := Go.Ground.phase }, { on := 2, ground := Go.Ground.phase }, { on := 3, ground := Go.Ground.phase }, { on := 4, ground := Go.Ground.phase }, { on := 5, ground := Go.Ground.phase }, { on := 6, ground := Go.Ground.phase }], guard := none }) rfl (by decide) (fun K hK => ?_)
             have s5 := (hNod.more b5).cell 4
             have f5 := (hNod.more b5).fr 4
             simp only [List.getElem?_toArray, List.getElem?_cons_succ, List.getElem?_cons_zero] at s5
             go_simp
             refine hK _ _ ?_
             clear hK K s5 f5
             try simp only [Act.put, List.setIfInBounds_toArray, List.set_cons_zero, List.set_cons_succ]
             refine anyL_done (by kernel_rfl) ?_ _
             have HPU := Lib.hid (HLQ.out.push b5 (fun L hL => HKQ.out L hL) own5)
             have HNP := Lib.hid HPU.out.par.cells.2.1
             go_wp2
             go_roundw
             case rel => exact ⟨j2, G, ([] : List NodeD) ++ [n1], _, _, hj2l, by omega, by omega, HRN.out, by rw [List.length_append, List.length_singleton]; omega, HKU.out, fun e => absurd e (by simp), HPU.out⟩
             case measure => rw [M1.out, HNP.out]; simp [intOf]; omega
            exact AllL.nil
           exact AllL.nil
          refine AllL.cons (o := { dst := some 104, op := Go.Op.buildSlice 23 1 #[(0, Go.Operand.tmp 103)], type := 23, pos := "ref.go:60", after := #[{ on := 4, ground := Go.Ground.data }], guard := none }) rfl (fun K hK => ?_) ?_
          ·go_simp
           refine hK _ _ (hSB _ (bAA _ _)) ?_
           clear hK K
           try simp only [Act.put, List.setIfInBounds_toArray, List.set_cons_zero, List.set_cons_succ]
           refine aLr (rs := [3]) (by kernel_rfl) (by simp) ?_
           refine AllL.cons (o := { dst := some 102, op := Go.Op.call { callee := Go.Callee.builtin Go.Builtin.append, args := #[Go.Operand.tmp 99, Go.Operand.tmp 101], argTypes := #[23, 23] }, type := 23, pos := "ref.go:60", after := #[{ on := 0, ground := Go.Ground.data }, { on := 2, ground := Go.Ground.data }], guard := none }) rfl (fun K hK => ?_) ?_
           ·go_simp
            refine hK _ _ (hSB _ (bAA _ _)) ?_
            clear hK K
            try simp only [Act.put, List.setIfInBounds_toArray, List.set_cons_zero, List.set_cons_succ]
            refine aLr (rs := [6]) (by kernel_rfl) (by simp) ?_
            refine AllL.cons (o := { dst := some 105, op := Go.Op.call { callee := Go.Callee.builtin Go.Builtin.append, args := #[Go.Operand.tmp 102, Go.Operand.tmp 104], argTypes := #[23, 23] }, type := 23, pos := "ref.go:60", after := #[{ on := 3, ground := Go.Ground.data }, { on := 5, ground := Go.Ground.data }, { on := 3, ground := Go.Ground.chain }], guard := none }) rfl (fun K hK => ?_) ?_
            ·refine step_one rfl (.tmp 102) (.tmp 104) rfl wq.heap.size (wq.heap.size + 1) 0 [] (.slice (some ⟨wq.heap.size, 0, none⟩) 0 0) (.int .i64 n1.kind) (.string n1.sp) (.string n1.nm) (.slice xa n1.al.length xc) (.slice xk n1.kids.length xd) (.string n1.tx) (.int .i64 n1.at') rfl rfl hE1K blkB hk1 (by decide) ((bAA _ _)).size ?_
             intro g5 cap5 w5 own5 grow5
             try go_simp
             have b5 := gb (bAA _ _) grow5 ((bAA _ _)).size (Nat.le_refl _)
             refine hK _ _ (hSB _ b5) ?_
             clear hK K
             try simp only [Act.put, List.setIfInBounds_toArray, List.set_cons_zero, List.set_cons_succ]
             refine anyL_takeD (i := 7) (oi := { dst := some 106, op := Go.Op.fieldAddr 25 (Go.Operand.tmp 8) 4, type := 0, pos := "ref.go:60", after := #[{ on := 0, ground := Go.Ground.phase }, { on := 1, ground := Go.Ground.phase }, { on := 2, ground := Go.Ground.phase }, { on := 3, ground := Go.Ground.phase }, { on := 4, ground := Go.Ground.phase }, { on := 5, ground := Go.Ground.phase }, { on := 6, ground := Go.Ground.phase }], guard := none }) (v := ?_) rfl (by decide) (by kernel_rfl) (by kernel_rfl) (by kernel_rfl) (fun _ _ _ h => h) (Or.inl ⟨by rfl, ?_⟩) ?_
             rotate_left
             ·intro wz _
              go_simp
              (try with_reducible rfl)
             try simp only [Act.put, List.setIfInBounds_toArray, List.set_cons_zero, List.set_cons_succ]
             refine aLr (rs := [8]) (by kernel_rfl) (by simp) ?_
             refine AllL.last (o := { dst := none, op := Go.Op.store 23 (Go.Operand.tmp 106) (Go.Operand.tmp 105), type := 0, pos := "ref.go:60", after := #[{ on := 7, ground := Go.Ground.data }, { on := 6, ground := Go.Ground.data }, { on := 6, ground := Go.Ground.chain }, { on := 0, ground := Go.Ground.phase }, { on := 1, ground := Go.Ground.phase }, { on := 2, ground := Go.Ground.phase }, { on := 3, ground := Go.Ground.phase }, { on := 4, ground := Go.Ground.phase }, { on := 5, ground := Go.Ground.phase }, { on := 6, ground := Go.Ground.phase }], guard := none }) rfl (by decide) (fun K hK => ?_)
             have s5 := (hNod.more b5).cell 4
             have f5 := (hNod.more b5).fr 4
             simp only [List.getElem?_toArray, List.getElem?_cons_succ, List.getElem?_cons_zero] at s5
             go_simp
             refine hK _ _ ?_
             clear hK K s5 f5
             try simp only [Act.put, List.setIfInBounds_toArray, List.set_cons_zero, List.set_cons_succ]
             refine anyL_done (by kernel_rfl) ?_ _
             have HPU := Lib.hid (HLQ.out.push b5 (fun L hL => HKQ.out L hL) own5)
             have HNP := Lib.hid HPU.out.par.cells.2.1
             go_wp2
             go_roundw
             case rel => exact ⟨j2, G, ([] : List NodeD) ++ [n1], _, _, hj2l, by omega, by omega, HRN.out, by rw [List.length_append, List.length_singleton]; omega, HKU.out, fun e => absurd e (by simp), HPU.out⟩
             case measure => rw [M1.out, HNP.out]; simp [intOf]; omega
            exact AllL.nil
           exact AllL.nil
          exact AllL.nil
         refine AllL.cons (o := { dst := some 104, op := Go.Op.buildSlice 23 1 #[(0, Go.Operand.tmp 103)], type := 23, pos := "ref.go:60", after := #[{ on := 4, ground := Go.Ground.data }], guard := none }) rfl (fun K hK => ?_) ?_
         ·go_simp
          refine hK _ _ (hSB _ (bA _)) ?_
          clear hK K
          try simp only [Act.put, List.setIfInBounds_toArray, List.set_cons_zero, List.set_cons_succ]
          refine aLr (rs := [0]) (by kernel_rfl) (by simp) ?_
          refine AllL.cons (o := { dst := some 99, op := Go.Op.buildSlice 23 0 #[], type := 23, pos := "ref.go:60", after := #[], guard := none }) rfl (fun K hK => ?_) ?_
          ·go_simp
           refine hK _ _ (hSB _ (bAA _ _)) ?_
           clear hK K
           try simp only [Act.put, List.setIfInBounds_toArray, List.set_cons_zero, List.set_cons_succ]
           refine aLr (rs := [3]) (by kernel_rfl) (by simp) ?_
           refine AllL.cons (o := { dst := some 102, op := Go.Op.call { callee := Go.Callee.builtin Go.Builtin.append, args := #[Go.Operand.tmp 99, Go.Operand.tmp 101], argTypes := #[23, 23] }, type := 23, pos := "ref.go:60", after := #[{ on := 0, ground := Go.Ground.data }, { on := 2, ground := Go.Ground.data }], guard := none }) rfl (fun K hK => ?_) ?_
           ·go_simp
            refine hK _ _ (hSB _ (bAA _ _)) ?_
            clear hK K
            try simp only [Act.put, List.setIfInBounds_toArray, List.set_cons_zero, List.set_cons_succ]
            refine aLr (rs := [6]) (by kernel_rfl) (by simp) ?_
            refine AllL.cons (o := { dst := some 105, op := Go.Op.call { callee := Go.Callee.builtin Go.Builtin.append, args := #[Go.Operand.tmp 102, Go.Operand.tmp 104], argTypes := #[23, 23] }, type := 23, pos := "ref.go:60", after := #[{ on := 3, ground := Go.Ground.data }, { on := 5, ground := Go.Ground.data }, { on := 3, ground := Go.Ground.chain }], guard := none }) rfl (fun K hK => ?_) ?_
            ·refine step_one rfl (.tmp 102) (.tmp 104) rfl wq.heap.size wq.heap.size 0 [] (.slice (some ⟨(wq.heap.size + 1), 0, none⟩) 0 0) (.int .i64 n1.kind) (.string n1.sp) (.string n1.nm) (.slice xa n1.al.length xc) (.slice xk n1.kids.length xd) (.string n1.tx) (.int .i64 n1.at') rfl rfl hE2 blkC hk1 (by decide) ((bAA _ _)).size ?_
             intro g5 cap5 w5 own5 grow5
             try go_simp
             have b5 := gb (bAA _ _) grow5 ((bAA _ _)).size (Nat.le_succ _)
             refine hK _ _ (hSB _ b5) ?_
             clear hK K
             try simp only [Act.put, List.setIfInBounds_toArray, List.set_cons_zero, List.set_cons_succ]
             refine anyL_takeD (i := 7) (oi := { dst := some 106, op := Go.Op.fieldAddr 25 (Go.Operand.tmp 8) 4, type := 0, pos := "ref.go:60", after := #[{ on := 0, ground := Go.Ground.phase }, { on := 1, ground := Go.Ground.phase }, { on := 2, ground := Go.Ground.phase }, { on := 3, ground := Go.Ground.phase }, { on := 4, ground := Go.Ground.phase }, { on := 5, ground := Go.Ground.phase }, { on := 6, ground := Go.Ground.phase }], guard := none }) (v := ?_) rfl (by decide) (by kernel_rfl) (by kernel_rfl) (by kernel_rfl) (fun _ _ _ h => h) (Or.inl ⟨by rfl, ?_⟩) ?_
             rotate_left
             ·intro wz _
              go_simp
              (try with_reducible rfl)
             try simp only [Act.put, List.setIfInBounds_toArray, List.set_cons_zero, List.set_cons_succ]
             refine aLr (rs := [8]) (by kernel_rfl) (by simp) ?_
             refine AllL.last (o := { dst := none, op := Go.Op.store 23 (Go.Operand.tmp 106) (Go.Operand.tmp 105), type := 0, pos := "ref.go:60", after := #[{ on := 7, ground := Go.Ground.data }, { on := 6, ground := Go.Ground.data }, { on := 6, ground := Go.Ground.chain }, { on := 0, ground := Go.Ground.phase }, { on := 1, ground := Go.Ground.phase }, { on := 2, ground := Go.Ground.phase }, { on := 3, ground := Go.Ground.phase }, { on := 4, ground := Go.Ground.phase }, { on := 5, ground := Go.Ground.phase }, { on := 6, ground := Go.Ground.phase }], guard := none }) rfl (by decide) (fun K hK => ?_)
             have s5 := (hNod.more b5).cell 4
             have f5 := (hNod.more b5).fr 4
             simp only [List.getElem?_toArray, List.getElem?_cons_succ, List.getElem?_cons_zero] at s5
             go_simp
             refine hK _ _ ?_
             clear hK K s5 f5
             try simp only [Act.put, List.setIfInBounds_toArray, List.set_cons_zero, List.set_cons_succ]
             refine anyL_done (by kernel_rfl) ?_ _
             have HPU := Lib.hid (HLQ.out.push b5 (fun L hL => HKQ.out L hL) own5)
             have HNP := Lib.hid HPU.out.par.cells.2.1
             go_wp2
             go_roundw
             case rel => exact ⟨j2, G, ([] : List NodeD) ++ [n1], _, _, hj2l, by omega, by omega, HRN.out, by rw [List.length_append, List.length_singleton]; omega, HKU.out, fun e => absurd e (by simp), HPU.out⟩
             case measure => rw [M1.out, HNP.out]; simp [intOf]; omega
            exact AllL.nil
           exact AllL.nil
          exact AllL.nil
         exact AllL.nil
        ·obtain ⟨g, cap, hv, hg, hgz⟩ := HLQ.out.row.form (List.length_pos_iff.2 hk0)
         injection hv with hv1 hv2 hv3
         subst hv1
         replace hv3 := hv3.symm
         subst hv3
         have own0 := HLQ.out.row
         obtain ⟨n, hn⟩ : ∃ n, n = kids.length := ⟨_, rfl⟩
         have hn0 : 0 < n := by rw [hn]; exact List.length_pos_iff.2 hk0
         have hn9 : n ≤ 1000000000 := by omega
         have hxl : xs.length = n * 7 := by rw [hn]; exact own0.1
         have hx1 : ∀ y ∈ xs, y.oneCell' = true := KRow.one _ _ (HLQ.out.kids _ HLO0.out)
         rw [← hn] at own0 hSB hNod
         have HNN := Lib.hid hn
         clear hn
         have bR : Below wq.heap.size wq wq := Below.refl _ _
         have bA : ∀ o, Below wq.heap.size wq (wq.alloc o).drew := fun o => (bR.alloc bR.size o).drew
         have bAA : ∀ o o', Below wq.heap.size wq ((wq.alloc o).alloc o').drew := fun o o' => ((bR.alloc bR.size o).alloc (bR.alloc bR.size o).size o').drew
         have hS0 := hSB _ bR.drew
         have hE1 := (made_own wq wq.heap.size (Nat.le_refl _)).drew
         have hE1K := ((made_own wq wq.heap.size (Nat.le_refl _)).alloc (.cells #[.int .i64 n1.kind, .string n1.sp, .string n1.nm, .slice xa n1.al.length xc, .slice xk n1.kids.length xd, .string n1.tx, .int .i64 n1.at'] 25)).drew
         have hE2 : ((wq.alloc (.cells #[.int .i64 n1.kind, .string n1.sp, .string n1.nm, .slice xa n1.al.length xc, .slice xk n1.kids.length xd, .string n1.tx, .int .i64 n1.at'] 25)).alloc (.cells #[] 25)).drew.ownsRow wq.heap.size 25 7 (.slice (some ⟨wq.heap.size + 1, 0, none⟩) 0 0) 0 [] := by
          have := (made_own (wq.alloc (.cells #[.int .i64 n1.kind, .string n1.sp, .string n1.nm, .slice xa n1.al.length xc, .slice xk n1.kids.length xd, .string n1.tx, .int .i64 n1.at'] 25)) wq.heap.size (bR.alloc bR.size _).size).drew
          rwa [show (wq.alloc (.cells #[.int .i64 n1.kind, .string n1.sp, .string n1.nm, .slice xa n1.al.length xc, .slice xk n1.kids.length xd, .string n1.tx, .int .i64 n1.at'] 25)).heap.size = wq.heap.size + 1 by simp] at this
         have blkB : ((wq.alloc (.cells #[] 25)).alloc (.cells #[.int .i64 n1.kind, .string n1.sp, .string n1.nm, .slice xa n1.al.length xc, .slice xk n1.kids.length xd, .string n1.tx, .int .i64 n1.at'] 25)).drew.heap[wq.heap.size + 1]? = some (.cells #[.int .i64 n1.kind, .string n1.sp, .string n1.nm, .slice xa n1.al.length xc, .slice xk n1.kids.length xd, .string n1.tx, .int .i64 n1.at'] 25 (0, 0)) := by
          have := heap_alloc_new (wq.alloc (.cells #[] 25)) (.cells #[.int .i64 n1.kind, .string n1.sp, .string n1.nm, .slice xa n1.al.length xc, .slice xk n1.kids.length xd, .string n1.tx, .int .i64 n1.at'] 25)
          rwa [show (wq.alloc (.cells #[] 25)).heap.size = wq.heap.size + 1 by simp] at this
         have blkC : ((wq.alloc (.cells #[.int .i64 n1.kind, .string n1.sp, .string n1.nm, .slice xa n1.al.length xc, .slice xk n1.kids.length xd, .string n1.tx, .int .i64 n1.at'] 25)).alloc (.cells #[] 25)).drew.heap[wq.heap.size]? = some (.cells #[.int .i64 n1.kind, .string n1.sp, .string n1.nm, .slice xa n1.al.length xc, .slice xk n1.kids.length xd, .string n1.tx, .int .i64 n1.at'] 25 (0, 0)) := (heap_alloc_old (wq.alloc (.cells #[.int .i64 n1.kind, .string n1.sp, .string n1.nm, .slice xa n1.al.length xc, .slice xk n1.kids.length xd, .string n1.tx, .int .i64 n1.at'] 25)) (.cells #[] 25) (by simp)).trans (heap_alloc_new wq (.cells #[.int .i64 n1.kind, .string n1.sp, .string n1.nm, .slice xa n1.al.length xc, .slice xk n1.kids.length xd, .string n1.tx, .int .i64 n1.at'] 25))
         refine wp_region_late (S := fun w' => NK (w.heap.size + 2) w2.heap.size (.slice (some ⟨g, 0, none⟩) n cap) (.int .i64 n1.kind) (.string n1.sp) (.string n1.nm) (.slice xa n1.al.length xc) (.slice xk n1.kids.length xd) (.string n1.tx) (.int .i64 n1.at') w') (D := [7, 8]) (by kernel_rfl) ?_
         refine anyL_take (i := 1) (oi := { dst := some 100, op := Go.Op.fieldAddr 25 (Go.Operand.tmp 8) 4, type := 0, pos := "ref.go:60", after := #[], guard := none }) (v := ?_) rfl (by decide) (by kernel_rfl) (by kernel_rfl) (by kernel_rfl) (by kernel_rfl) (fun _ _ _ h => h) (Or.inl ⟨by rfl, ?_⟩) hS0 ?_
         rotate_left
         ·intro wz hSz
          obtain ⟨z0, z1, z2, z3, z4, z5, z6, z7⟩ := hSz
          go_simp
          (try with_reducible rfl)
         try simp only [Act.put, List.setIfInBounds_toArray, List.set_cons_zero, List.set_cons_succ]
         refine anyL_take (i := 2) (oi := { dst := some 101, op := Go.Op.load 23 (Go.Operand.tmp 100), type := 23, pos := "ref.go:60", after := #[{ on := 1, ground := Go.Ground.data }], guard := none }) (v := ?_) rfl (by decide) (by kernel_rfl) (by kernel_rfl) (by kernel_rfl) (by kernel_rfl) (fun _ _ _ h => h) (Or.inl ⟨by rfl, ?_⟩) hS0 ?_
         rotate_left
         ·intro wz hSz
          obtain ⟨z0, z1, z2, z3, z4, z5, z6, z7⟩ := hSz
          go_simp
          (try with_reducible rfl)
         try simp only [Act.put, List.setIfInBounds_toArray, List.set_cons_zero, List.set_cons_succ]
         refine anyL_take (i := 4) (oi := { dst := some 103, op := Go.Op.load 25 (Go.Operand.tmp 10), type := 25, pos := "ref.go:60", after := #[], guard := none }) (v := ?_) rfl (by decide) (by kernel_rfl) (by kernel_rfl) (by kernel_rfl) (by kernel_rfl) (fun _ _ _ h => h) (Or.inl ⟨by rfl, ?_⟩) hS0 ?_
         rotate_left
         ·intro wz hSz
          obtain ⟨z0, z1, z2, z3, z4, z5, z6, z7⟩ := hSz
          go_simp
          (try with_reducible rfl)
         try simp only [Act.put, List.setIfInBounds_toArray, List.set_cons_zero, List.set_cons_succ]
         refine aLr (rs := [0, 5]) (by kernel_rfl) (by simp) ?_
         refine AllL.cons (o := { dst := some 99, op := Go.Op.buildSlice 23 0 #[], type := 23, pos := "ref.go:60", after := #[], guard := none }) rfl (fun K hK => ?_) ?_
         ·go_simp
          refine hK _ _ (hSB _ (bA _)) ?_
          clear hK K
          try simp only [Act.put, List.setIfInBounds_toArray, List.set_cons_zero, List.set_cons_succ]
          refine aLr (rs := [3, 5]) (by kernel_rfl) (by simp) ?_
          refine AllL.cons (o := { dst := some 102, op := Go.Op.call { callee := Go.Callee.builtin Go.Builtin.append, args := #[Go.Operand.tmp 99, Go.Operand.tmp 101], argTypes := #[23, 23] }, type := 23, pos := "ref.go:60", after := #[{ on := 0, ground := Go.Ground.data }, { on := 2, ground := Go.Ground.data }], guard := none }) rfl (fun K hK => ?_) ?_
          ·refine step_copy rfl (.tmp 99) (.tmp 101) rfl wq.heap.size wq.heap.size g n cap xs rfl rfl hE1 hxl (row_news own0 (bA _)) hx1 hn0 hn9 ((bA _)).size ?_
           intro g1 cap1 w2 own1 grow1 hg1
           try go_simp
           have b2 := gb (bA _) grow1 ((bA _)).size (Nat.le_refl _)
           refine hK _ _ (hSB _ b2) ?_
           clear hK K
           try simp only [Act.put, List.setIfInBounds_toArray, List.set_cons_zero, List.set_cons_succ]
           refine aLr (rs := [5]) (by kernel_rfl) (by simp) ?_
           refine AllL.cons (o := { dst := some 104, op := Go.Op.buildSlice 23 1 #[(0, Go.Operand.tmp 103)], type := 23, pos := "ref.go:60", after := #[{ on := 4, ground := Go.Ground.data }], guard := none }) rfl (fun K hK => ?_) ?_
           ·go_simp
            refine hK _ _ (hSB _ (b2.alloc b2.size _)) ?_
            clear hK K
            try simp only [Act.put, List.setIfInBounds_toArray, List.set_cons_zero, List.set_cons_succ]
            refine aLr (rs := [6]) (by kernel_rfl) (by simp) ?_
            refine AllL.cons (o := { dst := some 105, op := Go.Op.call { callee := Go.Callee.builtin Go.Builtin.append, args := #[Go.Operand.tmp 102, Go.Operand.tmp 104], argTypes := #[23, 23] }, type := 23, pos := "ref.go:60", after := #[{ on := 3, ground := Go.Ground.data }, { on := 5, ground := Go.Ground.data }, { on := 3, ground := Go.Ground.chain }], guard := none }) rfl (fun K hK => ?_) ?_
            ·refine step_one rfl (.tmp 102) (.tmp 104) rfl wq.heap.size w2.heap.size n xs (.slice (some ⟨g1, 0, none⟩) n cap1) (.int .i64 n1.kind) (.string n1.sp) (.string n1.nm) (.slice xa n1.al.length xc) (.slice xk n1.kids.length xd) (.string n1.tx) (.int .i64 n1.at') rfl rfl (own1.alloc _) (heap_alloc_new w2 _) hk1 hn9 ((b2.alloc b2.size _)).size ?_
             intro g5 cap5 w5 own5 grow5
             try go_simp
             have b5 := gb (b2.alloc b2.size _) grow5 ((b2.alloc b2.size _)).size hg1
             refine hK _ _ (hSB _ b5) ?_
             clear hK K
             try simp only [Act.put, List.setIfInBounds_toArray, List.set_cons_zero, List.set_cons_succ]
             refine anyL_takeD (i := 7) (oi := { dst := some 106, op := Go.Op.fieldAddr 25 (Go.Operand.tmp 8) 4, type := 0, pos := "ref.go:60", after := #[{ on := 0, ground := Go.Ground.phase }, { on := 1, ground := Go.Ground.phase }, { on := 2, ground := Go.Ground.phase }, { on := 3, ground := Go.Ground.phase }, { on := 4, ground := Go.Ground.phase }, { on := 5, ground := Go.Ground.phase }, { on := 6, ground := Go.Ground.phase }], guard := none }) (v := ?_) rfl (by decide) (by kernel_rfl) (by kernel_rfl) (by kernel_rfl) (fun _ _ _ h => h) (Or.inl ⟨by rfl, ?_⟩) ?_
             rotate_left
             ·intro wz _
              go_simp
              (try with_reducible rfl)
             try simp only [Act.put, List.setIfInBounds_toArray, List.set_cons_zero, List.set_cons_succ]
             refine aLr (rs := [8]) (by kernel_rfl) (by simp) ?_
             refine AllL.last (o := { dst := none, op := Go.Op.store 23 (Go.Operand.tmp 106) (Go.Operand.tmp 105), type := 0, pos := "ref.go:60", after := #[{ on := 7, ground := Go.Ground.data }, { on := 6, ground := Go.Ground.data }, { on := 6, ground := Go.Ground.chain }, { on := 0, ground := Go.Ground.phase }, { on := 1, ground := Go.Ground.phase }, { on := 2, ground := Go.Ground.phase }, { on := 3, ground := Go.Ground.phase }, { on := 4, ground := Go.Ground.phase }, { on := 5, ground := Go.Ground.phase }, { on := 6, ground := Go.Ground.phase }], guard := none }) rfl (by decide) (fun K hK => ?_)
             have s5 := (hNod.more b5).cell 4
             have f5 := (hNod.more b5).fr 4
             simp only [List.getElem?_toArray, List.getElem?_cons_succ, List.getElem?_cons_zero] at s5
             go_simp
             refine hK _ _ ?_
             clear hK K s5 f5
             try simp only [Act.put, List.setIfInBounds_toArray, List.set_cons_zero, List.set_cons_succ]
             refine anyL_done (by kernel_rfl) ?_ _
             have HPU := Lib.hid (HLQ.out.push b5 (fun L hL => HKQ.out L hL) (by rw [← HNN.out]; exact own5))
             have HNP := Lib.hid HPU.out.par.cells.2.1
             go_wp2
             go_roundw
             case rel => exact ⟨j2, G, kids ++ [n1], _, _, hj2l, by omega, by omega, HRN.out, by rw [List.length_append, List.length_singleton]; omega, HKU.out, fun e => absurd e (by simp), HPU.out⟩
             case measure => rw [M1.out, HNP.out]; simp [intOf]; omega
            exact AllL.nil
           exact AllL.nil
          refine AllL.cons (o := { dst := some 104, op := Go.Op.buildSlice 23 1 #[(0, Go.Operand.tmp 103)], type := 23, pos := "ref.go:60", after := #[{ on := 4, ground := Go.Ground.data }], guard := none }) rfl (fun K hK => ?_) ?_
          ·go_simp
           refine hK _ _ (hSB _ (bAA _ _)) ?_
           clear hK K
           try simp only [Act.put, List.setIfInBounds_toArray, List.set_cons_zero, List.set_cons_succ]
           refine aLr (rs := [3]) (by kernel_rfl) (by simp) ?_
           refine AllL.cons (o := { dst := some 102, op := Go.Op.call { callee := Go.Callee.builtin Go.Builtin.append, args := #[Go.Operand.tmp 99, Go.Operand.tmp 101], argTypes := #[23, 23] }, type := 23, pos := "ref.go:60", after := #[{ on := 0, ground := Go.Ground.data }, { on := 2, ground := Go.Ground.data }], guard := none }) rfl (fun K hK => ?_) ?_
           ·refine step_copy rfl (.tmp 99) (.tmp 101) rfl wq.heap.size wq.heap.size g n cap xs rfl rfl hE1K hxl (row_news own0 (bAA _ _)) hx1 hn0 hn9 ((bAA _ _)).size ?_
            intro g1 cap1 w2 own1 grow1 hg1
            try go_simp
            have b2 := gb (bAA _ _) grow1 ((bAA _ _)).size (Nat.le_refl _)
            refine hK _ _ (hSB _ b2) ?_
            clear hK K
            try simp only [Act.put, List.setIfInBounds_toArray, List.set_cons_zero, List.set_cons_succ]
            refine aLr (rs := [6]) (by kernel_rfl) (by simp) ?_
            refine AllL.cons (o := { dst := some 105, op := Go.Op.call { callee := Go.Callee.builtin Go.Builtin.append, args := #[Go.Operand.tmp 102, Go.Operand.tmp 104], argTypes := #[23, 23] }, type := 23, pos := "ref.go:60", after := #[{ on := 3, ground := Go.Ground.data }, { on := 5, ground := Go.Ground.data }, { on := 3, ground := Go.Ground.chain }], guard := none }) rfl (fun K hK => ?_) ?_
            ·refine step_one rfl (.tmp 102) (.tmp 104) rfl wq.heap.size (wq.heap.size + 1) n xs (.slice (some ⟨g1, 0, none⟩) n cap1) (.int .i64 n1.kind) (.string n1.sp) (.string n1.nm) (.slice xa n1.al.length xc) (.slice xk n1.kids.length xd) (.string n1.tx) (.int .i64 n1.at') rfl rfl own1 (heap_grown grow1 (by omega) blkB) hk1 hn9 (b2).size ?_
             intro g5 cap5 w5 own5 grow5
             try go_simp
             have b5 := gb b2 grow5 (b2).size hg1
             refine hK _ _ (hSB _ b5) ?_
             clear hK K
             try simp only [Act.put, List.setIfInBounds_toArray, List.set_cons_zero, List.set_cons_succ]
             refine anyL_takeD (i := 7) (oi := { dst := some 106, op := Go.Op.fieldAddr 25 (Go.Operand.tmp 8) 4, type := 0, pos := "ref.go:60", after := #[{ on := 0, ground := Go.Ground.phase }, { on := 1, ground := Go.Ground.phase }, { on := 2, ground := Go.Ground.phase }, { on := 3, ground := Go.Ground.phase }, { on := 4, ground := Go.Ground.phase }, { on := 5, ground := Go.Ground.phase }, { on := 6, ground := Go.Ground.phase }], guard := none }) (v := ?_) rfl (by decide) (by kernel_rfl) (by kernel_rfl) (by kernel_rfl) (fun _ _ _ h => h) (Or.inl ⟨by rfl, ?_⟩) ?_
             rotate_left
             ·intro wz _
              go_simp
              (try with_reducible rfl)
             try simp only [Act.put, List.setIfInBounds_toArray, List.set_cons_zero, List.set_cons_succ]
             refine aLr (rs := [8]) (by kernel_rfl) (by simp) ?_
             refine AllL.last (o := { dst := none, op := Go.Op.store 23 (Go.Operand.tmp 106) (Go.Operand.tmp 105), type := 0, pos := "ref.go:60", after := #[{ on := 7, ground := Go.Ground.data }, { on := 6, ground := Go.Ground.data }, { on := 6, ground := Go.Ground.chain }, { on := 0, ground := Go.Ground.phase }, { on := 1, ground := Go.Ground.phase }, { on := 2, ground := Go.Ground.phase }, { on := 3, ground := Go.Ground.phase }, { on := 4, ground := Go.Ground.phase }, { on := 5, ground := Go.Ground.phase }, { on := 6, ground := Go.Ground.phase }], guard := none }) rfl (by decide) (fun K hK => ?_)
             have s5 := (hNod.more b5).cell 4
             have f5 := (hNod.more b5).fr 4
             simp only [List.getElem?_toArray, List.getElem?_cons_succ, List.getElem?_cons_zero] at s5
             go_simp
             refine hK _ _ ?_
             clear hK K s5 f5
             try simp only [Act.put, List.setIfInBounds_toArray, List.set_cons_zero, List.set_cons_succ]
             refine anyL_done (by kernel_rfl) ?_ _
             have HPU := Lib.hid (HLQ.out.push b5 (fun L hL => HKQ.out L hL) (by rw [← HNN.out]; exact own5))
             have HNP := Lib.hid HPU.out.par.cells.2.1
             go_wp2
             go_roundw
             case rel => exact ⟨j2, G, kids ++ [n1], _, _, hj2l, by omega, by omega, HRN.out, by rw [List.length_append, List.length_singleton]; omega, HKU.out, fun e => absurd e (by simp), HPU.out⟩
             case measure => rw [M1.out, HNP.out]; simp [intOf]; omega
            exact AllL.nil
           exact AllL.nil
          exact AllL.nil
         refine AllL.cons (o := { dst := some 104, op := Go.Op.buildSlice 23 1 #[(0, Go.Operand.tmp 103)], type := 23, pos := "ref.go:60", after := #[{ on := 4, ground := Go.Ground.data }], guard := none }) rfl (fun K hK => ?_) ?_
         ·go_simp
          refine hK _ _ (hSB _ (bA _)) ?_
          clear hK K
          try simp only [Act.put, List.setIfInBounds_toArray, List.set_cons_zero, List.set_cons_succ]
          refine aLr (rs := [0]) (by kernel_rfl) (by simp) ?_
          refine AllL.cons (o := { dst := some 99, op := Go.Op.buildSlice 23 0 #[], type := 23, pos := "ref.go:60", after := #[], guard := none }) rfl (fun K hK => ?_) ?_
          ·go_simp
           refine hK _ _ (hSB _ (bAA _ _)) ?_
           clear hK K
           try simp only [Act.put, List.setIfInBounds_toArray, List.set_cons_zero, List.set_cons_succ]
           refine aLr (rs := [3]) (by kernel_rfl) (by simp) ?_
           refine AllL.cons (o := { dst := some 102, op := Go.Op.call { callee := Go.Callee.builtin Go.Builtin.append, args := #[Go.Operand.tmp 99, Go.Operand.tmp 101], argTypes := #[23, 23] }, type := 23, pos := "ref.go:60", after := #[{ on := 0, ground := Go.Ground.data }, { on := 2, ground := Go.Ground.data }], guard := none }) rfl (fun K hK => ?_) ?_
           ·refine step_copy rfl (.tmp 99) (.tmp 101) rfl wq.heap.size (wq.heap.size + 1) g n cap xs rfl rfl hE2 hxl (row_news own0 (bAA _ _)) hx1 hn0 hn9 ((bAA _ _)).size ?_
            intro g1 cap1 w2 own1 grow1 hg1
            try go_simp
            have b2 := gb (bAA _ _) grow1 ((bAA _ _)).size (Nat.le_succ _)
            refine hK _ _ (hSB _ b2) ?_
            clear hK K
            try simp only [Act.put, List.setIfInBounds_toArray, List.set_cons_zero, List.set_cons_succ]
            refine aLr (rs := [6]) (by kernel_rfl) (by simp) ?_
            refine AllL.cons (o := { dst := some 105, op := Go.Op.call { callee := Go.Callee.builtin Go.Builtin.append, args := #[Go.Operand.tmp 102, Go.Operand.tmp 104], argTypes := #[23, 23] }, type := 23, pos := "ref.go:60", after := #[{ on := 3, ground := Go.Ground.data }, { on := 5, ground := Go.Ground.data }, { on := 3, ground := Go.Ground.chain }], guard := none }) rfl (fun K hK => ?_) ?_
            ·refine step_one rfl (.tmp 102) (.tmp 104) rfl wq.heap.size wq.heap.size n xs (.slice (some ⟨g1, 0, none⟩) n cap1) (.int .i64 n1.kind) (.string n1.sp) (.string n1.nm) (.slice xa n1.al.length xc) (.slice xk n1.kids.length xd) (.string n1.tx) (.int .i64 n1.at') rfl rfl own1 (heap_grown grow1 (by omega) blkC) hk1 hn9 (b2).size ?_
             intro g5 cap5 w5 own5 grow5
             try go_simp
             have b5 := gb b2 grow5 (b2).size hg1
             refine hK _ _ (hSB _ b5) ?_
             clear hK K
             try simp only [Act.put, List.setIfInBounds_toArray, List.set_cons_zero, List.set_cons_succ]
             refine anyL_takeD (i := 7) (oi := { dst := some 106, op := Go.Op.fieldAddr 25 (Go.Operand.tmp 8) 4, type := 0, pos := "ref.go:60", after := #[{ on := 0, ground := Go.Ground.phase }, { on := 1, ground := Go.Ground.phase }, { on := 2, ground := Go.Ground.phase }, { on := 3, ground := Go.Ground.phase }, { on := 4, ground := Go.Ground.phase }, { on := 5, ground := Go.Ground.phase }, { on := 6, ground := Go.Ground.phase }], guard := none }) (v := ?_) rfl (by decide) (by kernel_rfl) (by kernel_rfl) (by kernel_rfl) (fun _ _ _ h => h) (Or.inl ⟨by rfl, ?_⟩) ?_
             rotate_left
             ·intro wz _
              go_simp
              (try with_reducible rfl)
             try simp only [Act.put, List.setIfInBounds_toArray, List.set_cons_zero, List.set_cons_succ]
             refine aLr (rs := [8]) (by kernel_rfl) (by simp) ?_
             refine AllL.last (o := { dst := none, op := Go.Op.store 23 (Go.Operand.tmp 106) (Go.Operand.tmp 105), type := 0, pos := "ref.go:60", after := #[{ on := 7, ground := Go.Ground.data }, { on := 6, ground := Go.Ground.data }, { on := 6, ground := Go.Ground.chain }, { on := 0, ground := Go.Ground.phase }, { on := 1, ground := Go.Ground.phase }, { on := 2, ground := Go.Ground.phase }, { on := 3, ground := Go.Ground.phase }, { on := 4, ground := Go.Ground.phase }, { on := 5, ground := Go.Ground.phase }, { on := 6, ground := Go.Ground.phase }], guard := none }) rfl (by decide) (fun K hK => ?_)
             have s5 := (hNod.more b5).cell 4
             have f5 := (hNod.more b5).fr 4
             simp only [List.getElem?_toArray, List.getElem?_cons_succ, List.getElem?_cons_zero] at s5
             go_simp
             refine hK _ _ ?_
             clear hK K s5 f5
             try simp only [Act.put, List.setIfInBounds_toArray, List.set_cons_zero, List.set_cons_succ]
             refine anyL_done (by kernel_rfl) ?_ _
             have HPU := Lib.hid (HLQ.out.push b5 (fun L hL => HKQ.out L hL) (by rw [← HNN.out]; exact own5))
             have HNP := Lib.hid HPU.out.par.cells.2.1
             go_wp2
             go_roundw
             case rel => exact ⟨j2, G, kids ++ [n1], _, _, hj2l, by omega, by omega, HRN.out, by rw [List.length_append, List.length_singleton]; omega, HKU.out, fun e => absurd e (by simp), HPU.out⟩
             case measure => rw [M1.out, HNP.out]; simp [intOf]; omega
            exact AllL.nil
           exact AllL.nil
          exact AllL.nil
         exact AllL.nil
       ·have HRN := Lib.hid (HRM.out.trans (if_pos he2))
        have heb : (e2 != 0) = true := by simpa using he2
        have hae := h1 he2
        have hRb := (HL4.out.res.keep kk2 (by omega)).more bq
        have hKq := (HL4.out.keep.trans kk2).more bq
        obtain ⟨⟨r0, r1, r2, r3, r4, r5, r6⟩, g0, g1, g2, g3, g4, g5, g6⟩ := hRb.seven
        have HKQ := Lib.hid hKq
        have HLR := Lib.hid (show ∀ L, LeftOut w p (some ad) l L → LeftOut W4 p (some ad) l (L ++ [w.heap.size]) from fun L hL => HL4.out.res1 hL)
        clear HRM HB2 h0 h1 hP2 hP3 kk2 hKq hRb hKb hzk hkz
        go_wp2
        exact bodyPost_ret (v := .agg #[.int .i64 n1.kind, .string n1.sp, .string n1.nm, .slice xa n1.al.length xc, .slice xk n1.kids.length xd, .string n1.tx, .int .i64 n1.at']) (by simp [results, Tryz.results33, go_sem, cSs, r0, r1, r2, r3, r4, r5, r6]) rfl (by rw [HRN.out]; exact ⟨_, rfl, ⟨_, _, par_sev HP3.out hRp _ _ _ _ _ _ _, fun e => absurd e he2, fun _ => hae⟩, keep_sev HKQ.out (Nat.le_refl _) _ _ _ _ _ _ _, fun L hL => node_res ((HN2.out _ (HLR.out L hL)).go (Goes.below HBQ.out)) (sevK2 _ _ _ _ _ _ _ _ _)⟩)
      ·have HRM := Lib.hid ((HRL.out.trans (if_neg k2)).trans (if_neg k1))
       have k1b : (u.kind == 1) = false := by simpa using k1
       obtain ⟨wq, hwq⟩ : ∃ wq, wq = W4.setCell ⟨p, 1, none⟩ (.int .i64 ((j : Int) + 1)) := ⟨_, rfl⟩
       have hL5 : ElR w p (some ad) l.length ct l w.heap.size t qa ca a0 (j + 1) kids (.slice Ak kids.length Ck) xs wq := HL4.out.keeps (by rw [hwq]; exact (Keep.refl p W4).set 1 _) (by rw [hwq, show ((j + 1 : Nat) : Int) = (j : Int) + 1 by omega]; exact HL4.out.par.set1 _)
       have hU5 : Blk wq U #[.int .i64 u.kind, .string (oB u.nm), .slice qu u.al.length cu, .bool u.em, .string (oB u.tx), .int .i64 u.at'] 73 := by rw [hwq]; exact HU.out.own (q := ⟨p, 1, none⟩) (by show p ≠ U; omega) _
       go_upto_region 21 with fail
       simp only [← hwq]
       clear hwq HRL HL4 HU k2 k2b k1 k1b u0 u1 u4 u5 t1 p1 q1 hw1
       have hNod := hL5.nod
       have hNz := hNod.lt
       have hUz5 := hU5.lt
       have n4 := hNod.cell 4
       simp only [List.getElem?_toArray, List.getElem?_cons_succ, List.getElem?_cons_zero] at n4
       have u4 : wq.cell? ⟨U, 4, none⟩ = some (.string (oB u.tx)) := hU5.cell 4
       have u5 : wq.cell? ⟨U, 5, none⟩ = some (.int .i64 u.at') := hU5.cell 5
       have hk1 : ∀ y ∈ ([.int .i64 1, .string ⟨#[]⟩, .string ⟨#[]⟩, .slice none 0 0, .slice none 0 0, .string (oB u.tx), .int .i64 u.at'] : List Value), y.oneCell' = true := by
        intro y hy
        simp only [List.mem_cons, List.not_mem_nil, or_false] at hy
        rcases hy with rfl | rfl | rfl | rfl | rfl | rfl | rfl <;> rfl
       have HLQ := Lib.hid hL5
       have hNU : NU (w.heap.size + 2) U (.slice Ak kids.length Ck) (.string (oB u.tx)) (.int .i64 u.at') wq := ⟨n4, u4, u5⟩
       have HNU := Lib.hid hNU
       have HKV := Lib.hid (show ∀ k ∈ kids ++ [charN u], k.tx.size ≤ (j + 1) * 100050004 from fun k hk => by
        have hm : (j + 1) * 100050004 = j * 100050004 + 100050004 := Nat.succ_mul _ _
        rcases List.mem_append.1 hk with hk | hk
        ·have := HKT.out k hk
         exact Nat.le_trans this (by rw [hm]; exact Nat.le_add_right _ _)
        ·rw [List.mem_singleton.1 hk]
         show (oB u.tx).size ≤ _
         rw [oBz, hm]
         exact Nat.le_trans hut (Nat.le_add_left _ _))
       clear hL5 hU5 hNU
       rcases List.eq_nil_or_concat kids with hk0 | ⟨ks, k, hks⟩
       ·subst hk0
        obtain ⟨hx1, hx2⟩ := HLQ.out.row
        have hxs : xs = [] := List.length_eq_zero_iff.1 (by rw [hx1]; rfl)
        subst hxs
        have hA := HKN.out rfl
        injection hA with hA1 hA2 hA3
        subst hA1
        subst hA3
        clear hx1 hx2
        have n4' : wq.cell? ⟨w.heap.size + 2, 4, none⟩ = some (.slice none 0 0) := n4
        clear n4
        have HRN := Lib.hid (show R = kidsP l z G d t (j + 1) (([] : List NodeD) ++ [charN u]) from HRM.out)
        have hwn : IntKind.i64.wrap (0 - 1) = -1 := by decide
        have hSB : ∀ w', Below wq.heap.size wq w' → NU (w.heap.size + 2) U (.slice none 0 0) (.string (oB u.tx)) (.int .i64 u.at') w' := fun w' hb => HNU.out.below hb hNz hUz5
        clear HRM
        go_wp2
        clear n4' u4 u5
        have bR : Below wq.heap.size wq wq := Below.refl _ _
        have bA : ∀ o, Below wq.heap.size wq (wq.alloc o).drew := fun o => (bR.alloc bR.size o).drew
        have bAA : ∀ o o', Below wq.heap.size wq ((wq.alloc o).alloc o').drew := fun o o' => ((bR.alloc bR.size o).alloc (bR.alloc bR.size o).size o').drew
        have hS0 := hSB _ bR.drew
        have hE1 := (made_own wq wq.heap.size (Nat.le_refl _)).drew
        have hE1K := ((made_own wq wq.heap.size (Nat.le_refl _)).alloc (.cells #[.int .i64 1, .string ⟨#[]⟩, .string ⟨#[]⟩, .slice none 0 0, .slice none 0 0, .string (oB u.tx), .int .i64 u.at'] 25)).drew
        have hE2 : ((wq.alloc (.cells #[.int .i64 1, .string ⟨#[]⟩, .string ⟨#[]⟩, .slice none 0 0, .slice none 0 0, .string (oB u.tx), .int .i64 u.at'] 25)).alloc (.cells #[] 25)).drew.ownsRow wq.heap.size 25 7 (.slice (some ⟨wq.heap.size + 1, 0, none⟩) 0 0) 0 [] := by
         have := (made_own (wq.alloc (.cells #[.int .i64 1, .string ⟨#[]⟩, .string ⟨#[]⟩, .slice none 0 0, .slice none 0 0, .string (oB u.tx), .int .i64 u.at'] 25)) wq.heap.size (bR.alloc bR.size _).size).drew
         rwa [show (wq.alloc (.cells #[.int .i64 1, .string ⟨#[]⟩, .string ⟨#[]⟩, .slice none 0 0, .slice none 0 0, .string (oB u.tx), .int .i64 u.at'] 25)).heap.size = wq.heap.size + 1 by simp] at this
        have blkB : ((wq.alloc (.cells #[] 25)).alloc (.cells #[.int .i64 1, .string ⟨#[]⟩, .string ⟨#[]⟩, .slice none 0 0, .slice none 0 0, .string (oB u.tx), .int .i64 u.at'] 25)).drew.heap[wq.heap.size + 1]? = some (.cells #[.int .i64 1, .string ⟨#[]⟩, .string ⟨#[]⟩, .slice none 0 0, .slice none 0 0, .string (oB u.tx), .int .i64 u.at'] 25 (0, 0)) := by
         have := heap_alloc_new (wq.alloc (.cells #[] 25)) (.cells #[.int .i64 1, .string ⟨#[]⟩, .string ⟨#[]⟩, .slice none 0 0, .slice none 0 0, .string (oB u.tx), .int .i64 u.at'] 25)
         rwa [show (wq.alloc (.cells #[] 25)).heap.size = wq.heap.size + 1 by simp] at this
        have blkC : ((wq.alloc (.cells #[.int .i64 1, .string ⟨#[]⟩, .string ⟨#[]⟩, .slice none 0 0, .slice none 0 0, .string (oB u.tx), .int .i64 u.at'] 25)).alloc (.cells #[] 25)).drew.heap[wq.heap.size]? = some (.cells #[.int .i64 1, .string ⟨#[]⟩, .string ⟨#[]⟩, .slice none 0 0, .slice none 0 0, .string (oB u.tx), .int .i64 u.at'] 25 (0, 0)) := (heap_alloc_old (wq.alloc (.cells #[.int .i64 1, .string ⟨#[]⟩, .string ⟨#[]⟩, .slice none 0 0, .slice none 0 0, .string (oB u.tx), .int .i64 u.at'] 25)) (.cells #[] 25) (by simp)).trans (heap_alloc_new wq (.cells #[.int .i64 1, .string ⟨#[]⟩, .string ⟨#[]⟩, .slice none 0 0, .slice none 0 0, .string (oB u.tx), .int .i64 u.at'] 25))
        refine wp_region_late (S := fun w' => NU (w.heap.size + 2) U (.slice none 0 0) (.string (oB u.tx)) (.int .i64 u.at') w') (D := [11, 12]) (by kernel_rfl) ?_
        refine anyL_take (i := 1) (oi := { dst := some 141, op := Go.Op.fieldAddr 25 (Go.Operand.tmp 8) 4, type := 0, pos := "ref.go:68", after := #[], guard := none }) (v := ?_) rfl (by decide) (by kernel_rfl) (by kernel_rfl) (by kernel_rfl) (by kernel_rfl) (fun _ _ _ h => h) (Or.inl ⟨by rfl, ?_⟩) hS0 ?_
        rotate_left
        ·intro wz hSz
         obtain ⟨z0, z1, z2⟩ := hSz
         go_simp
         (try with_reducible rfl)
        try simp only [Act.put, List.setIfInBounds_toArray, List.set_cons_zero, List.set_cons_succ]
        refine anyL_take (i := 2) (oi := { dst := some 142, op := Go.Op.load 23 (Go.Operand.tmp 141), type := 23, pos := "ref.go:68", after := #[{ on := 1, ground := Go.Ground.data }], guard := none }) (v := ?_) rfl (by decide) (by kernel_rfl) (by kernel_rfl) (by kernel_rfl) (by kernel_rfl) (fun _ _ _ h => h) (Or.inl ⟨by rfl, ?_⟩) hS0 ?_
        rotate_left
        ·intro wz hSz
         obtain ⟨z0, z1, z2⟩ := hSz
         go_simp
         (try with_reducible rfl)
        try simp only [Act.put, List.setIfInBounds_toArray, List.set_cons_zero, List.set_cons_succ]
        refine anyL_take (i := 4) (oi := { dst := some 144, op := Go.Op.fieldAddr 73 (Go.Operand.tmp 9) 4, type := 0, pos := "ref.go:68", after := #[], guard := none }) (v := ?_) rfl (by decide) (by kernel_rfl) (by kernel_rfl) (by kernel_rfl) (by kernel_rfl) (fun _ _ _ h => h) (Or.inl ⟨by rfl, ?_⟩) hS0 ?_
        rotate_left
        ·intro wz hSz
         obtain ⟨z0, z1, z2⟩ := hSz
         go_simp
         (try with_reducible rfl)
        try simp only [Act.put, List.setIfInBounds_toArray, List.set_cons_zero, List.set_cons_succ]
        refine anyL_take (i := 5) (oi := { dst := some 145, op := Go.Op.load 9 (Go.Operand.tmp 144), type := 9, pos := "ref.go:68", after := #[{ on := 4, ground := Go.Ground.data }], guard := none }) (v := ?_) rfl (by decide) (by kernel_rfl) (by kernel_rfl) (by kernel_rfl) (by kernel_rfl) (fun _ _ _ h => h) (Or.inl ⟨by rfl, ?_⟩) hS0 ?_
        rotate_left
        ·intro wz hSz
         obtain ⟨z0, z1, z2⟩ := hSz
         go_simp
         (try with_reducible rfl)
        try simp only [Act.put, List.setIfInBounds_toArray, List.set_cons_zero, List.set_cons_succ]
        refine anyL_take (i := 6) (oi := { dst := some 146, op := Go.Op.fieldAddr 73 (Go.Operand.tmp 9) 5, type := 0, pos := "ref.go:68", after := #[], guard := none }) (v := ?_) rfl (by decide) (by kernel_rfl) (by kernel_rfl) (by kernel_rfl) (by kernel_rfl) (fun _ _ _ h => h) (Or.inl ⟨by rfl, ?_⟩) hS0 ?_
        rotate_left
        ·intro wz hSz
         obtain ⟨z0, z1, z2⟩ := hSz
         go_simp
         (try with_reducible rfl)
        try simp only [Act.put, List.setIfInBounds_toArray, List.set_cons_zero, List.set_cons_succ]
        refine anyL_take (i := 7) (oi := { dst := some 147, op := Go.Op.load 3 (Go.Operand.tmp 146), type := 3, pos := "ref.go:68", after := #[{ on := 6, ground := Go.Ground.data }], guard := none }) (v := ?_) rfl (by decide) (by kernel_rfl) (by kernel_rfl) (by kernel_rfl) (by kernel_rfl) (fun _ _ _ h => h) (Or.inl ⟨by rfl, ?_⟩) hS0 ?_
        rotate_left
        ·intro wz hSz
         obtain ⟨z0, z1, z2⟩ := hSz
         go_simp
         (try with_reducible rfl)
        try simp only [Act.put, List.setIfInBounds_toArray, List.set_cons_zero, List.set_cons_succ]
        refine anyL_take (i := 8) (oi := { dst := some 148, op := Go.Op.build 25 #[(0, Go.Operand.const (Go.Value.int Go.IntKind.i64 1)), (5, Go.Operand.tmp 145), (6, Go.Operand.tmp 147)], type := 25, pos := "ref.go:68", after := #[{ on := 5, ground := Go.Ground.data }, { on := 7, ground := Go.Ground.data }], guard := none }) (v := ?_) rfl (by decide) (by kernel_rfl) (by kernel_rfl) (by kernel_rfl) (by kernel_rfl) (fun _ _ _ h => h) (Or.inl ⟨by rfl, ?_⟩) hS0 ?_
        rotate_left
        ·intro wz hSz
         obtain ⟨z0, z1, z2⟩ := hSz
         go_simp
         (try with_reducible rfl)
        try simp only [Act.put, List.setIfInBounds_toArray, List.set_cons_zero, List.set_cons_succ]
        refine aLr (rs := [0, 9]) (by kernel_rfl) (by simp) ?_
        refine AllL.cons (o := { dst := some 140, op := Go.Op.buildSlice 23 0 #[], type := 23, pos := "ref.go:68", after := #[], guard := none }) rfl (fun K hK => ?_) ?_
        ·go_simp
         refine hK _ _ (hSB _ (bA _)) ?_
         clear hK K
         try simp only [Act.put, List.setIfInBounds_toArray, List.set_cons_zero, List.set_cons_succ]
         refine aLr (rs := [3, 9]) (by kernel_rfl) (by simp) ?_
         refine AllL.cons (o := { dst := some 143, op := Go.Op.call { callee := Go.Callee.builtin Go.Builtin.append, args := #[Go.Operand.tmp 140, Go.Operand.tmp 142], argTypes := #[23, 23] }, type := 23, pos := "ref.go:68", after := #[{ on := 0, ground := Go.Ground.data }, { on := 2, ground := Go.Ground.data }], guard := none }) rfl (fun K hK => ?_) ?_
         ·go_simp
          refine hK _ _ (hSB _ (bA _)) ?_
          clear hK K
          try simp only [Act.put, List.setIfInBounds_toArray, List.set_cons_zero, List.set_cons_succ]
          refine aLr (rs := [9]) (by kernel_rfl) (by simp) ?_
          refine AllL.cons (o := { dst := some 149, op := Go.Op.buildSlice 23 1 #[(0, Go.Operand.tmp 148)], type := 23, pos := "ref.go:68", after := #[{ on := 8, ground := Go.Ground.data }], guard := none }) rfl (fun K hK => ?_) ?_
          ·go_simp
           refine hK _ _ (hSB _ (bAA _ _)) ?_
           clear hK K
           try simp only [Act.put, List.setIfInBounds_toArray, List.set_cons_zero, List.set_cons_succ]
           refine aLr (rs := [10]) (by kernel_rfl) (by simp) ?_
           refine AllL.cons (o := { dst := some 150, op := Go.Op.call { callee := Go.Callee.builtin Go.Builtin.append, args := #[Go.Operand.tmp 143, Go.Operand.tmp 149], argTypes := #[23, 23] }, type := 23, pos := "ref.go:68", after := #[{ on := 3, ground := Go.Ground.data }, { on := 9, ground := Go.Ground.data }, { on := 3, ground := Go.Ground.chain }], guard := none }) rfl (fun K hK => ?_) ?_
           ·refine step_one rfl (.tmp 143) (.tmp 149) rfl wq.heap.size (wq.heap.size + 1) 0 [] (.slice (some ⟨wq.heap.size, 0, none⟩) 0 0) (.int .i64 1) (.string ⟨#[]⟩) (.string ⟨#[]⟩) (.slice none 0 0) (.slice none 0 0) (.string (oB u.tx)) (.int .i64 u.at') rfl rfl hE1K blkB hk1 (by decide) ((bAA _ _)).size ?_
            intro g5 cap5 w5 own5 grow5
            try go_simp
            have b5 := gb (bAA _ _) grow5 ((bAA _ _)).size (Nat.le_refl _)
            refine hK _ _ (hSB _ b5) ?_
            clear hK K
            try simp only [Act.put, List.setIfInBounds_toArray, List.set_cons_zero, List.set_cons_succ]
            refine anyL_takeD (i := 11) (oi := { dst := some 151, op := Go.Op.fieldAddr 25 (Go.Operand.tmp 8) 4, type := 0, pos := "ref.go:68", after := #[{ on := 0, ground := Go.Ground.phase }, { on := 1, ground := Go.Ground.phase }, { on := 2, ground := Go.Ground.phase }, { on := 3, ground := Go.Ground.phase }, { on := 4, ground := Go.Ground.phase }, { on := 5, ground := Go.Ground.phase }, { on := 6, ground := Go.Ground.phase }, { on := 7, ground := Go.Ground.phase }, { on := 8, ground := Go.Ground.phase }, { on := 9, ground := Go.Ground.phase }, { on := 10, ground := Go.Ground.phase }], guard := none }) (v := ?_) rfl (by decide) (by kernel_rfl) (by kernel_rfl) (by kernel_rfl) (fun _ _ _ h => h) (Or.inl ⟨by rfl, ?_⟩) ?_
            rotate_left
            ·intro wz _
             go_simp
             (try with_reducible rfl)
            try simp only [Act.put, List.setIfInBounds_toArray, List.set_cons_zero, List.set_cons_succ]
            refine aLr (rs := [12]) (by kernel_rfl) (by simp) ?_
            refine AllL.last (o := { dst := none, op := Go.Op.store 23 (Go.Operand.tmp 151) (Go.Operand.tmp 150), type := 0, pos := "ref.go:68", after := #[{ on := 11, ground := Go.Ground.data }, { on := 10, ground := Go.Ground.data }, { on := 10, ground := Go.Ground.chain }, { on := 0, ground := Go.Ground.phase }, { on := 1, ground := Go.Ground.phase }, { on := 2, ground := Go.Ground.phase }, { on := 3, ground := Go.Ground.phase }, { on := 4, ground := Go.Ground.phase }, { on := 5, ground := Go.Ground.phase }, { on := 6, ground := Go.Ground.phase }, { on := 7, ground := Go.Ground.phase }, { on := 8, ground := Go.Ground.phase }, { on := 9, ground := Go.Ground.phase }, { on := 10, ground := Go.Ground.phase }], guard := none }) rfl (by decide) (fun K hK => ?_)
            have s5 := (hNod.more b5).cell 4
            have f5 := (hNod.more b5).fr 4
            simp only [List.getElem?_toArray, List.getElem?_cons_succ, List.getElem?_cons_zero] at s5
            go_simp
            refine hK _ _ ?_
            clear hK K s5 f5
            try simp only [Act.put, List.setIfInBounds_toArray, List.set_cons_zero, List.set_cons_succ]
            refine anyL_done (by kernel_rfl) ?_ _
            have HPU := Lib.hid (HLQ.out.push b5 (fun L _ => char_is _ u) own5)
            have HNP := Lib.hid HPU.out.par.cells.2.1
            go_wp2
            go_roundw
            case rel => exact ⟨j + 1, G, ([] : List NodeD) ++ [charN u], _, _, hlt, by omega, by omega, HRN.out, by rw [List.length_append, List.length_singleton]; omega, HKV.out, fun e => absurd e (by simp), HPU.out⟩
            case measure => rw [M1.out, HNP.out]; simp [intOf]; omega
           exact AllL.nil
          exact AllL.nil
         refine AllL.cons (o := { dst := some 149, op := Go.Op.buildSlice 23 1 #[(0, Go.Operand.tmp 148)], type := 23, pos := "ref.go:68", after := #[{ on := 8, ground := Go.Ground.data }], guard := none }) rfl (fun K hK => ?_) ?_
         ·go_simp
          refine hK _ _ (hSB _ (bAA _ _)) ?_
          clear hK K
          try simp only [Act.put, List.setIfInBounds_toArray, List.set_cons_zero, List.set_cons_succ]
          refine aLr (rs := [3]) (by kernel_rfl) (by simp) ?_
          refine AllL.cons (o := { dst := some 143, op := Go.Op.call { callee := Go.Callee.builtin Go.Builtin.append, args := #[Go.Operand.tmp 140, Go.Operand.tmp 142], argTypes := #[23, 23] }, type := 23, pos := "ref.go:68", after := #[{ on := 0, ground := Go.Ground.data }, { on := 2, ground := Go.Ground.data }], guard := none }) rfl (fun K hK => ?_) ?_
          ·go_simp
           refine hK _ _ (hSB _ (bAA _ _)) ?_
           clear hK K
           try simp only [Act.put, List.setIfInBounds_toArray, List.set_cons_zero, List.set_cons_succ]
           refine aLr (rs := [10]) (by kernel_rfl) (by simp) ?_
           refine AllL.cons (o := { dst := some 150, op := Go.Op.call { callee := Go.Callee.builtin Go.Builtin.append, args := #[Go.Operand.tmp 143, Go.Operand.tmp 149], argTypes := #[23, 23] }, type := 23, pos := "ref.go:68", after := #[{ on := 3, ground := Go.Ground.data }, { on := 9, ground := Go.Ground.data }, { on := 3, ground := Go.Ground.chain }], guard := none }) rfl (fun K hK => ?_) ?_
           ·refine step_one rfl (.tmp 143) (.tmp 149) rfl wq.heap.size (wq.heap.size + 1) 0 [] (.slice (some ⟨wq.heap.size, 0, none⟩) 0 0) (.int .i64 1) (.string ⟨#[]⟩) (.string ⟨#[]⟩) (.slice none 0 0) (.slice none 0 0) (.string (oB u.tx)) (.int .i64 u.at') rfl rfl hE1K blkB hk1 (by decide) ((bAA _ _)).size ?_
            intro g5 cap5 w5 own5 grow5
            try go_simp
            have b5 := gb (bAA _ _) grow5 ((bAA _ _)).size (Nat.le_refl _)
            refine hK _ _ (hSB _ b5) ?_
            clear hK K
            try simp only [Act.put, List.setIfInBounds_toArray, List.set_cons_zero, List.set_cons_succ]
            refine anyL_takeD (i := 11) (oi := { dst := some 151, op := Go.Op.fieldAddr 25 (Go.Operand.tmp 8) 4, type := 0, pos := "ref.go:68", after := #[{ on := 0, ground := Go.Ground.phase }, { on := 1, ground := Go.Ground.phase }, { on := 2, ground := Go.Ground.phase }, { on := 3, ground := Go.Ground.phase }, { on := 4, ground := Go.Ground.phase }, { on := 5, ground := Go.Ground.phase }, { on := 6, ground := Go.Ground.phase }, { on := 7, ground := Go.Ground.phase }, { on := 8, ground := Go.Ground.phase }, { on := 9, ground := Go.Ground.phase }, { on := 10, ground := Go.Ground.phase }], guard := none }) (v := ?_) rfl (by decide) (by kernel_rfl) (by kernel_rfl) (by kernel_rfl) (fun _ _ _ h => h) (Or.inl ⟨by rfl, ?_⟩) ?_
            rotate_left
            ·intro wz _
             go_simp
             (try with_reducible rfl)
            try simp only [Act.put, List.setIfInBounds_toArray, List.set_cons_zero, List.set_cons_succ]
            refine aLr (rs := [12]) (by kernel_rfl) (by simp) ?_
            refine AllL.last (o := { dst := none, op := Go.Op.store 23 (Go.Operand.tmp 151) (Go.Operand.tmp 150), type := 0, pos := "ref.go:68", after := #[{ on := 11, ground := Go.Ground.data }, { on := 10, ground := Go.Ground.data }, { on := 10, ground := Go.Ground.chain }, { on := 0, ground := Go.Ground.phase }, { on := 1, ground := Go.Ground.phase }, { on := 2, ground := Go.Ground.phase }, { on := 3, ground := Go.Ground.phase }, { on := 4, ground := Go.Ground.phase }, { on := 5, ground := Go.Ground.phase }, { on := 6, ground := Go.Ground.phase }, { on := 7, ground := Go.Ground.phase }, { on := 8, ground := Go.Ground.phase }, { on := 9, ground := Go.Ground.phase }, { on := 10, ground := Go.Ground.phase }], guard := none }) rfl (by decide) (fun K hK => ?_)
            have s5 := (hNod.more b5).cell 4
            have f5 := (hNod.more b5).fr 4
            simp only [List.getElem?_toArray, List.getElem?_cons_succ, List.getElem?_cons_zero] at s5
            go_simp
            refine hK _ _ ?_
            clear hK K s5 f5
            try simp only [Act.put, List.setIfInBounds_toArray, List.set_cons_zero, List.set_cons_succ]
            refine anyL_done (by kernel_rfl) ?_ _
            have HPU := Lib.hid (HLQ.out.push b5 (fun L _ => char_is _ u) own5)
            have HNP := Lib.hid HPU.out.par.cells.2.1
            go_wp2
            go_roundw
            case rel => exact ⟨j + 1, G, ([] : List NodeD) ++ [charN u], _, _, hlt, by omega, by omega, HRN.out, by rw [List.length_append, List.length_singleton]; omega, HKV.out, fun e => absurd e (by simp), HPU.out⟩
            case measure => rw [M1.out, HNP.out]; simp [intOf]; omega
           exact AllL.nil
          exact AllL.nil
         exact AllL.nil
        refine AllL.cons (o := { dst := some 149, op := Go.Op.buildSlice 23 1 #[(0, Go.Operand.tmp 148)], type := 23, pos := "ref.go:68", after := #[{ on := 8, ground := Go.Ground.data }], guard := none }) rfl (fun K hK => ?_) ?_
        ·go_simp
         refine hK _ _ (hSB _ (bA _)) ?_
         clear hK K
         try simp only [Act.put, List.setIfInBounds_toArray, List.set_cons_zero, List.set_cons_succ]
         refine aLr (rs := [0]) (by kernel_rfl) (by simp) ?_
         refine AllL.cons (o := { dst := some 140, op := Go.Op.buildSlice 23 0 #[], type := 23, pos := "ref.go:68", after := #[], guard := none }) rfl (fun K hK => ?_) ?_
         ·go_simp
          refine hK _ _ (hSB _ (bAA _ _)) ?_
          clear hK K
          try simp only [Act.put, List.setIfInBounds_toArray, List.set_cons_zero, List.set_cons_succ]
          refine aLr (rs := [3]) (by kernel_rfl) (by simp) ?_
          refine AllL.cons (o := { dst := some 143, op := Go.Op.call { callee := Go.Callee.builtin Go.Builtin.append, args := #[Go.Operand.tmp 140, Go.Operand.tmp 142], argTypes := #[23, 23] }, type := 23, pos := "ref.go:68", after := #[{ on := 0, ground := Go.Ground.data }, { on := 2, ground := Go.Ground.data }], guard := none }) rfl (fun K hK => ?_) ?_
          ·go_simp
           refine hK _ _ (hSB _ (bAA _ _)) ?_
           clear hK K
           try simp only [Act.put, List.setIfInBounds_toArray, List.set_cons_zero, List.set_cons_succ]
           refine aLr (rs := [10]) (by kernel_rfl) (by simp) ?_
           refine AllL.cons (o := { dst := some 150, op := Go.Op.call { callee := Go.Callee.builtin Go.Builtin.append, args := #[Go.Operand.tmp 143, Go.Operand.tmp 149], argTypes := #[23, 23] }, type := 23, pos := "ref.go:68", after := #[{ on := 3, ground := Go.Ground.data }, { on := 9, ground := Go.Ground.data }, { on := 3, ground := Go.Ground.chain }], guard := none }) rfl (fun K hK => ?_) ?_
           ·refine step_one rfl (.tmp 143) (.tmp 149) rfl wq.heap.size wq.heap.size 0 [] (.slice (some ⟨(wq.heap.size + 1), 0, none⟩) 0 0) (.int .i64 1) (.string ⟨#[]⟩) (.string ⟨#[]⟩) (.slice none 0 0) (.slice none 0 0) (.string (oB u.tx)) (.int .i64 u.at') rfl rfl hE2 blkC hk1 (by decide) ((bAA _ _)).size ?_
            intro g5 cap5 w5 own5 grow5
            try go_simp
            have b5 := gb (bAA _ _) grow5 ((bAA _ _)).size (Nat.le_succ _)
            refine hK _ _ (hSB _ b5) ?_
            clear hK K
            try simp only [Act.put, List.setIfInBounds_toArray, List.set_cons_zero, List.set_cons_succ]
            refine anyL_takeD (i := 11) (oi := { dst := some 151, op := Go.Op.fieldAddr 25 (Go.Operand.tmp 8) 4, type := 0, pos := "ref.go:68", after := #[{ on := 0, ground := Go.Ground.phase }, { on := 1, ground := Go.Ground.phase }, { on := 2, ground := Go.Ground.phase }, { on := 3, ground := Go.Ground.phase }, { on := 4, ground := Go.Ground.phase }, { on := 5, ground := Go.Ground.phase }, { on := 6, ground := Go.Ground.phase }, { on := 7, ground := Go.Ground.phase }, { on := 8, ground := Go.Ground.phase }, { on := 9, ground := Go.Ground.phase }, { on := 10, ground := Go.Ground.phase }], guard := none }) (v := ?_) rfl (by decide) (by kernel_rfl) (by kernel_rfl) (by kernel_rfl) (fun _ _ _ h => h) (Or.inl ⟨by rfl, ?_⟩) ?_
            rotate_left
            ·intro wz _
             go_simp
             (try with_reducible rfl)
            try simp only [Act.put, List.setIfInBounds_toArray, List.set_cons_zero, List.set_cons_succ]
            refine aLr (rs := [12]) (by kernel_rfl) (by simp) ?_
            refine AllL.last (o := { dst := none, op := Go.Op.store 23 (Go.Operand.tmp 151) (Go.Operand.tmp 150), type := 0, pos := "ref.go:68", after := #[{ on := 11, ground := Go.Ground.data }, { on := 10, ground := Go.Ground.data }, { on := 10, ground := Go.Ground.chain }, { on := 0, ground := Go.Ground.phase }, { on := 1, ground := Go.Ground.phase }, { on := 2, ground := Go.Ground.phase }, { on := 3, ground := Go.Ground.phase }, { on := 4, ground := Go.Ground.phase }, { on := 5, ground := Go.Ground.phase }, { on := 6, ground := Go.Ground.phase }, { on := 7, ground := Go.Ground.phase }, { on := 8, ground := Go.Ground.phase }, { on := 9, ground := Go.Ground.phase }, { on := 10, ground := Go.Ground.phase }], guard := none }) rfl (by decide) (fun K hK => ?_)
            have s5 := (hNod.more b5).cell 4
            have f5 := (hNod.more b5).fr 4
            simp only [List.getElem?_toArray, List.getElem?_cons_succ, List.getElem?_cons_zero] at s5
            go_simp
            refine hK _ _ ?_
            clear hK K s5 f5
            try simp only [Act.put, List.setIfInBounds_toArray, List.set_cons_zero, List.set_cons_succ]
            refine anyL_done (by kernel_rfl) ?_ _
            have HPU := Lib.hid (HLQ.out.push b5 (fun L _ => char_is _ u) own5)
            have HNP := Lib.hid HPU.out.par.cells.2.1
            go_wp2
            go_roundw
            case rel => exact ⟨j + 1, G, ([] : List NodeD) ++ [charN u], _, _, hlt, by omega, by omega, HRN.out, by rw [List.length_append, List.length_singleton]; omega, HKV.out, fun e => absurd e (by simp), HPU.out⟩
            case measure => rw [M1.out, HNP.out]; simp [intOf]; omega
           exact AllL.nil
          exact AllL.nil
         exact AllL.nil
        exact AllL.nil
       ·rw [List.concat_eq_append] at hks
        have hkl : kids.length = ks.length + 1 := by rw [hks, List.length_append, List.length_singleton]
        obtain ⟨g, cap, ys, v1, v2, v3, v4, v6, hv, hg, hx, hy, d0, d5, f5⟩ := (hks ▸ HLQ.out : ElR w p (some ad) l.length ct l w.heap.size t qa ca a0 (j + 1) (ks ++ [k]) (.slice Ak kids.length Ck) xs wq).last HLO0.out
        injection hv with hv1 hv2 hv3
        subst hv1
        replace hv3 := hv3.symm
        subst hv3
        rw [hkl] at n4
        have hks6 : (ks.length : Int) ≤ 1000000 := by omega
        have hks0 : (0 : Int) ≤ (ks.length : Int) := by omega
        have hksl : (ks.length : Int) < (ks.length : Int) + 1 := by omega
        have hksn : (ks.length : Int) < ((ks.length + 1 : Nat) : Int) := by omega
        have hw2 : IntKind.i64.wrap (((ks.length + 1 : Nat) : Int) - 1) = (ks.length : Int) := by rw [show ((ks.length + 1 : Nat) : Int) - 1 = (ks.length : Int) by omega]; exact wrap_small _ (by omega) (by omega)
        have hw3 : IntKind.i64.wrap ((ks.length : Int) + 1 - 1) = (ks.length : Int) := by rw [show (ks.length : Int) + 1 - 1 = (ks.length : Int) by omega]; exact wrap_small _ (by omega) (by omega)
        have HVV := Lib.hid (And.intro hx hy)
        clear hx hy
        by_cases hkk : k.kind = 1
        ·rw [hkk] at d0
         have HRN := Lib.hid (HRM.out.trans (by rw [hks, addChar_more ks k u hkk] : _ = kidsP l z G d t (j + 1) (ks ++ [moreN u k])))
         have HMO := Lib.hid ((hks ▸ HLQ.out : ElR w p (some ad) l.length ct l w.heap.size t qa ca a0 (j + 1) (ks ++ [k]) (.slice (some ⟨g, 0, none⟩) kids.length cap) xs wq).more u (by rw [hkl]) hg HVV.out.1 HVV.out.2)
         have hts := HKT.out k (by rw [hks]; simp)
         have hsum : ¬ 9223372036854775807 < k.tx.size + (oB u.tx).size := by rw [oBz]; omega
         have HKW := Lib.hid (show ∀ y ∈ ks ++ [moreN u k], y.tx.size ≤ (j + 1) * 100050004 from fun y hy => by
          have hm : (j + 1) * 100050004 = j * 100050004 + 100050004 := Nat.succ_mul _ _
          rcases List.mem_append.1 hy with hy | hy
          ·have := HKT.out y (by rw [hks]; exact List.mem_append_left _ hy)
           exact Nat.le_trans this (by rw [hm]; exact Nat.le_add_right _ _)
          ·rw [List.mem_singleton.1 hy, moreN_tx, hm]
           exact Nat.add_le_add hts hut)
         have hkj2 : (ks ++ [moreN u k]).length ≤ j + 1 := by rw [List.length_append, List.length_singleton]; omega
         rw [show k.kind = 1 from hkk] at HMO
         generalize k.tx = ktx at d5 HMO hsum
         have HNE := Lib.hid (fun e => absurd e (by simp) : ks ++ [moreN u k] = [] → (Value.slice (some ⟨g, 0, none⟩) kids.length cap) = .slice none 0 0)
         clear HRM HKT HKV hkk hts hks HVV HLQ HNU
         go_wp2
         refine wp_region_late (S := fun w' => (w'.cell? ⟨w.heap.size + 2, 4, none⟩ = some (.slice (some ⟨g, 0, none⟩) (ks.length + 1) cap) ∧ w'.cell? ⟨g, ks.length * 7 + 5, none⟩ = some (.string ktx) ∧ w'.cell? ⟨U, 4, none⟩ = some (.string (oB u.tx)))) (D := [9, 10, 11]) (by kernel_rfl) ?_
         refine anyL_take (i := 0) (oi := { dst := some 129, op := Go.Op.fieldAddr 25 (Go.Operand.tmp 8) 4, type := 0, pos := "ref.go:66", after := #[], guard := none }) (v := ?_) rfl (by decide) (by kernel_rfl) (by kernel_rfl) (by kernel_rfl) (by kernel_rfl) (fun _ _ _ h => h) (Or.inl ⟨by rfl, ?_⟩) ⟨n4, d5, u4⟩ ?_
         rotate_left
         ·intro wz hSz
          obtain ⟨z0, z1, z2⟩ := hSz
          go_simp
          (try with_reducible rfl)
         try simp only [Act.put, List.setIfInBounds_toArray, List.set_cons_zero, List.set_cons_succ]
         refine anyL_take (i := 1) (oi := { dst := some 130, op := Go.Op.load 23 (Go.Operand.tmp 129), type := 23, pos := "ref.go:66", after := #[{ on := 0, ground := Go.Ground.data }], guard := none }) (v := ?_) rfl (by decide) (by kernel_rfl) (by kernel_rfl) (by kernel_rfl) (by kernel_rfl) (fun _ _ _ h => h) (Or.inl ⟨by rfl, ?_⟩) ⟨n4, d5, u4⟩ ?_
         rotate_left
         ·intro wz hSz
          obtain ⟨z0, z1, z2⟩ := hSz
          go_simp
          (try with_reducible rfl)
         try simp only [Act.put, List.setIfInBounds_toArray, List.set_cons_zero, List.set_cons_succ]
         refine anyL_take (i := 2) (oi := { dst := some 131, op := Go.Op.move (Go.Operand.tmp 11), type := 3, pos := "ref.go:66", after := #[], guard := none }) (v := ?_) rfl (by decide) (by kernel_rfl) (by kernel_rfl) (by kernel_rfl) (by kernel_rfl) (fun _ _ _ h => h) (Or.inl ⟨by rfl, ?_⟩) ⟨n4, d5, u4⟩ ?_
         rotate_left
         ·intro wz hSz
          obtain ⟨z0, z1, z2⟩ := hSz
          go_simp
          (try with_reducible rfl)
         try simp only [Act.put, List.setIfInBounds_toArray, List.set_cons_zero, List.set_cons_succ]
         refine anyL_take (i := 3) (oi := { dst := some 132, op := Go.Op.indexAddr 23 (Go.Operand.tmp 130) (Go.Operand.tmp 131), type := 0, pos := "ref.go:66", after := #[{ on := 1, ground := Go.Ground.data }, { on := 2, ground := Go.Ground.data }], guard := none }) (v := ?_) rfl (by decide) (by kernel_rfl) (by kernel_rfl) (by kernel_rfl) (by kernel_rfl) (fun _ _ _ h => h) (Or.inl ⟨by rfl, ?_⟩) ⟨n4, d5, u4⟩ ?_
         rotate_left
         ·intro wz hSz
          obtain ⟨z0, z1, z2⟩ := hSz
          go_simp
          (try with_reducible rfl)
         try simp only [Act.put, List.setIfInBounds_toArray, List.set_cons_zero, List.set_cons_succ]
         refine anyL_take (i := 4) (oi := { dst := some 133, op := Go.Op.fieldAddr 25 (Go.Operand.tmp 132) 5, type := 0, pos := "ref.go:66", after := #[{ on := 3, ground := Go.Ground.data }], guard := none }) (v := ?_) rfl (by decide) (by kernel_rfl) (by kernel_rfl) (by kernel_rfl) (by kernel_rfl) (fun _ _ _ h => h) (Or.inl ⟨by rfl, ?_⟩) ⟨n4, d5, u4⟩ ?_
         rotate_left
         ·intro wz hSz
          obtain ⟨z0, z1, z2⟩ := hSz
          go_simp
          (try with_reducible rfl)
         try simp only [Act.put, List.setIfInBounds_toArray, List.set_cons_zero, List.set_cons_succ]
         refine anyL_take (i := 5) (oi := { dst := some 134, op := Go.Op.load 9 (Go.Operand.tmp 133), type := 9, pos := "ref.go:66", after := #[{ on := 4, ground := Go.Ground.data }], guard := none }) (v := ?_) rfl (by decide) (by kernel_rfl) (by kernel_rfl) (by kernel_rfl) (by kernel_rfl) (fun _ _ _ h => h) (Or.inl ⟨by rfl, ?_⟩) ⟨n4, d5, u4⟩ ?_
         rotate_left
         ·intro wz hSz
          obtain ⟨z0, z1, z2⟩ := hSz
          go_simp
          (try with_reducible rfl)
         try simp only [Act.put, List.setIfInBounds_toArray, List.set_cons_zero, List.set_cons_succ]
         refine anyL_take (i := 6) (oi := { dst := some 135, op := Go.Op.fieldAddr 73 (Go.Operand.tmp 9) 4, type := 0, pos := "ref.go:66", after := #[], guard := none }) (v := ?_) rfl (by decide) (by kernel_rfl) (by kernel_rfl) (by kernel_rfl) (by kernel_rfl) (fun _ _ _ h => h) (Or.inl ⟨by rfl, ?_⟩) ⟨n4, d5, u4⟩ ?_
         rotate_left
         ·intro wz hSz
          obtain ⟨z0, z1, z2⟩ := hSz
          go_simp
          (try with_reducible rfl)
         try simp only [Act.put, List.setIfInBounds_toArray, List.set_cons_zero, List.set_cons_succ]
         refine anyL_take (i := 7) (oi := { dst := some 136, op := Go.Op.load 9 (Go.Operand.tmp 135), type := 9, pos := "ref.go:66", after := #[{ on := 6, ground := Go.Ground.data }], guard := none }) (v := ?_) rfl (by decide) (by kernel_rfl) (by kernel_rfl) (by kernel_rfl) (by kernel_rfl) (fun _ _ _ h => h) (Or.inl ⟨by rfl, ?_⟩) ⟨n4, d5, u4⟩ ?_
         rotate_left
         ·intro wz hSz
          obtain ⟨z0, z1, z2⟩ := hSz
          go_simp
          (try with_reducible rfl)
         try simp only [Act.put, List.setIfInBounds_toArray, List.set_cons_zero, List.set_cons_succ]
         refine anyL_take (i := 8) (oi := { dst := some 137, op := Go.Op.binOp Go.BinOp.add 9 (Go.Operand.tmp 134) (Go.Operand.tmp 136) 9, type := 9, pos := "ref.go:66", after := #[{ on := 5, ground := Go.Ground.data }, { on := 7, ground := Go.Ground.data }], guard := none }) (v := ?_) rfl (by decide) (by kernel_rfl) (by kernel_rfl) (by kernel_rfl) (by kernel_rfl) (fun _ _ _ h => h) (Or.inl ⟨by rfl, ?_⟩) ⟨n4, d5, u4⟩ ?_
         rotate_left
         ·intro wz hSz
          obtain ⟨z0, z1, z2⟩ := hSz
          go_simp
          (try with_reducible rfl)
         try simp only [Act.put, List.setIfInBounds_toArray, List.set_cons_zero, List.set_cons_succ]
         refine anyL_takeD (i := 9) (oi := { dst := some 138, op := Go.Op.indexAddr 23 (Go.Operand.tmp 130) (Go.Operand.tmp 131), type := 0, pos := "ref.go:66", after := #[{ on := 1, ground := Go.Ground.data }, { on := 2, ground := Go.Ground.data }, { on := 0, ground := Go.Ground.phase }, { on := 1, ground := Go.Ground.phase }, { on := 2, ground := Go.Ground.phase }, { on := 3, ground := Go.Ground.phase }, { on := 4, ground := Go.Ground.phase }, { on := 5, ground := Go.Ground.phase }, { on := 6, ground := Go.Ground.phase }, { on := 7, ground := Go.Ground.phase }, { on := 8, ground := Go.Ground.phase }], guard := none }) (v := ?_) rfl (by decide) (by kernel_rfl) (by kernel_rfl) (by kernel_rfl) (fun _ _ _ h => h) (Or.inl ⟨by rfl, ?_⟩) ?_
         rotate_left
         ·intro wz _
          go_simp
          (try with_reducible rfl)
         try simp only [Act.put, List.setIfInBounds_toArray, List.set_cons_zero, List.set_cons_succ]
         refine anyL_takeD (i := 10) (oi := { dst := some 139, op := Go.Op.fieldAddr 25 (Go.Operand.tmp 138) 5, type := 0, pos := "ref.go:66", after := #[{ on := 9, ground := Go.Ground.data }, { on := 0, ground := Go.Ground.phase }, { on := 1, ground := Go.Ground.phase }, { on := 2, ground := Go.Ground.phase }, { on := 3, ground := Go.Ground.phase }, { on := 4, ground := Go.Ground.phase }, { on := 5, ground := Go.Ground.phase }, { on := 6, ground := Go.Ground.phase }, { on := 7, ground := Go.Ground.phase }, { on := 8, ground := Go.Ground.phase }], guard := none }) (v := ?_) rfl (by decide) (by kernel_rfl) (by kernel_rfl) (by kernel_rfl) (fun _ _ _ h => h) (Or.inl ⟨by rfl, ?_⟩) ?_
         rotate_left
         ·intro wz _
          go_simp
          (try with_reducible rfl)
         try simp only [Act.put, List.setIfInBounds_toArray, List.set_cons_zero, List.set_cons_succ]
         refine aLr (rs := [11]) (by kernel_rfl) (by simp) ?_
         refine AllL.last (o := { dst := none, op := Go.Op.store 9 (Go.Operand.tmp 139) (Go.Operand.tmp 137), type := 0, pos := "ref.go:66", after := #[{ on := 10, ground := Go.Ground.data }, { on := 8, ground := Go.Ground.data }, { on := 0, ground := Go.Ground.phase }, { on := 1, ground := Go.Ground.phase }, { on := 2, ground := Go.Ground.phase }, { on := 3, ground := Go.Ground.phase }, { on := 4, ground := Go.Ground.phase }, { on := 5, ground := Go.Ground.phase }, { on := 6, ground := Go.Ground.phase }, { on := 7, ground := Go.Ground.phase }, { on := 8, ground := Go.Ground.phase }], guard := none }) rfl (by decide) (fun K hK => ?_)
         go_simp
         refine hK _ _ ?_
         clear hK K
         try simp only [Act.put, List.setIfInBounds_toArray, List.set_cons_zero, List.set_cons_succ]
         refine anyL_done (by kernel_rfl) ?_ _
         have HPU := Lib.hid (HMO.out.below (Below.refl _ _).drew)
         have HNP := Lib.hid HPU.out.par.cells.2.1
         go_wp2
         go_roundw
         case rel => exact ⟨j + 1, G, ks ++ [moreN u k], _, _, hlt, by omega, by omega, HRN.out, hkj2, HKW.out, HNE.out, HPU.out⟩
         case measure => rw [M1.out, HNP.out]; simp [intOf]; omega
        ·have hkb : (k.kind == 1) = false := by simpa using hkk
         have HRN := Lib.hid (HRM.out.trans (by rw [hks, addChar_new ks k u hkk, ← hks] : _ = kidsP l z G d t (j + 1) (kids ++ [charN u])))
         have own0 := HLQ.out.row
         obtain ⟨n, hn⟩ : ∃ n, n = kids.length := ⟨_, rfl⟩
         have hn0 : 0 < n := by omega
         have hn9 : n ≤ 1000000000 := by omega
         have hxl : xs.length = n * 7 := by rw [hn]; exact own0.1
         have hx1 : ∀ y ∈ xs, y.oneCell' = true := KRow.one _ _ (HLQ.out.kids _ HLO0.out)
         have hSB : ∀ w', Below wq.heap.size wq w' → NU (w.heap.size + 2) U (.slice (some ⟨g, 0, none⟩) kids.length cap) (.string (oB u.tx)) (.int .i64 u.at') w' := fun w' hb => HNU.out.below hb hNz hUz5
         rw [← hn] at own0 hSB hNod
         have HNN := Lib.hid hn
         clear HRM hkk hks HVV hn
         go_wp2
         clear n4 u4 u5 d0 d5 f5 hw2 hw3 hkb hksl hksn
         have bR : Below wq.heap.size wq wq := Below.refl _ _
         have bA : ∀ o, Below wq.heap.size wq (wq.alloc o).drew := fun o => (bR.alloc bR.size o).drew
         have bAA : ∀ o o', Below wq.heap.size wq ((wq.alloc o).alloc o').drew := fun o o' => ((bR.alloc bR.size o).alloc (bR.alloc bR.size o).size o').drew
         have hS0 := hSB _ bR.drew
         have hE1 := (made_own wq wq.heap.size (Nat.le_refl _)).drew
         have hE1K := ((made_own wq wq.heap.size (Nat.le_refl _)).alloc (.cells #[.int .i64 1, .string ⟨#[]⟩, .string ⟨#[]⟩, .slice none 0 0, .slice none 0 0, .string (oB u.tx), .int .i64 u.at'] 25)).drew
         have hE2 : ((wq.alloc (.cells #[.int .i64 1, .string ⟨#[]⟩, .string ⟨#[]⟩, .slice none 0 0, .slice none 0 0, .string (oB u.tx), .int .i64 u.at'] 25)).alloc (.cells #[] 25)).drew.ownsRow wq.heap.size 25 7 (.slice (some ⟨wq.heap.size + 1, 0, none⟩) 0 0) 0 [] := by
          have := (made_own (wq.alloc (.cells #[.int .i64 1, .string ⟨#[]⟩, .string ⟨#[]⟩, .slice none 0 0, .slice none 0 0, .string (oB u.tx), .int .i64 u.at'] 25)) wq.heap.size (bR.alloc bR.size _).size).drew
          rwa [show (wq.alloc (.cells #[.int .i64 1, .string ⟨#[]⟩, .string ⟨#[]⟩, .slice none 0 0, .slice none 0 0, .string (oB u.tx), .int .i64 u.at'] 25)).heap.size = wq.heap.size + 1 by simp] at this
         have blkB : ((wq.alloc (.cells #[] 25)).alloc (.cells #[.int .i64 1, .string ⟨#[]⟩, .string ⟨#[]⟩, .slice none 0 0, .slice none 0 0, .string (oB u.tx), .int .i64 u.at'] 25)).drew.heap[wq.heap.size + 1]? = some (.cells #[.int .i64 1, .string ⟨#[]⟩, .string ⟨#[]⟩, .slice none 0 0, .slice none 0 0, .string (oB u.tx), .int .i64 u.at'] 25 (0, 0)) := by
          have := heap_alloc_new (wq.alloc (.cells #[] 25)) (.cells #[.int .i64 1, .string ⟨#[]⟩, .string ⟨#[]⟩, .slice none 0 0, .slice none 0 0, .string (oB u.tx), .int .i64 u.at'] 25)
          rwa [show (wq.alloc (.cells #[] 25)).heap.size = wq.heap.size + 1 by simp] at this
         have blkC : ((wq.alloc (.cells #[.int .i64 1, .string ⟨#[]⟩, .string ⟨#[]⟩, .slice none 0 0, .slice none 0 0, .string (oB u.tx), .int .i64 u.at'] 25)).alloc (.cells #[] 25)).drew.heap[wq.heap.size]? = some (.cells #[.int .i64 1, .string ⟨#[]⟩, .string ⟨#[]⟩, .slice none 0 0, .slice none 0 0, .string (oB u.tx), .int .i64 u.at'] 25 (0, 0)) := (heap_alloc_old (wq.alloc (.cells #[.int .i64 1, .string ⟨#[]⟩, .string ⟨#[]⟩, .slice none 0 0, .slice none 0 0, .string (oB u.tx), .int .i64 u.at'] 25)) (.cells #[] 25) (by simp)).trans (heap_alloc_new wq (.cells #[.int .i64 1, .string ⟨#[]⟩, .string ⟨#[]⟩, .slice none 0 0, .slice none 0 0, .string (oB u.tx), .int .i64 u.at'] 25))
         refine wp_region_late (S := fun w' => NU (w.heap.size + 2) U (.slice (some ⟨g, 0, none⟩) n cap) (.string (oB u.tx)) (.int .i64 u.at') w') (D := [11, 12]) (by kernel_rfl) ?_
         refine anyL_take (i := 1) (oi := { dst := some 141, op := Go.Op.fieldAddr 25 (Go.Operand.tmp 8) 4, type := 0, pos := "ref.go:68", after := #[], guard := none }) (v := ?_) rfl (by decide) (by kernel_rfl) (by kernel_rfl) (by kernel_rfl) (by kernel_rfl) (fun _ _ _ h => h) (Or.inl ⟨by rfl, ?_⟩) hS0 ?_
         rotate_left
         ·intro wz hSz
          obtain ⟨z0, z1, z2⟩ := hSz
          go_simp
          (try with_reducible rfl)
         try simp only [Act.put, List.setIfInBounds_toArray, List.set_cons_zero, List.set_cons_succ]
         refine anyL_take (i := 2) (oi := { dst := some 142, op := Go.Op.load 23 (Go.Operand.tmp 141), type := 23, pos := "ref.go:68", after := #[{ on := 1, ground := Go.Ground.data }], guard := none }) (v := ?_) rfl (by decide) (by kernel_rfl) (by kernel_rfl) (by kernel_rfl) (by kernel_rfl) (fun _ _ _ h => h) (Or.inl ⟨by rfl, ?_⟩) hS0 ?_
         rotate_left
         ·intro wz hSz
          obtain ⟨z0, z1, z2⟩ := hSz
          go_simp
          (try with_reducible rfl)
         try simp only [Act.put, List.setIfInBounds_toArray, List.set_cons_zero, List.set_cons_succ]
         refine anyL_take (i := 4) (oi := { dst := some 144, op := Go.Op.fieldAddr 73 (Go.Operand.tmp 9) 4, type := 0, pos := "ref.go:68", after := #[], guard := none }) (v := ?_) rfl (by decide) (by kernel_rfl) (by kernel_rfl) (by kernel_rfl) (by kernel_rfl) (fun _ _ _ h => h) (Or.inl ⟨by rfl, ?_⟩) hS0 ?_
         rotate_left
         ·intro wz hSz
          obtain ⟨z0, z1, z2⟩ := hSz
          go_simp
          (try with_reducible rfl)
         try simp only [Act.put, List.setIfInBounds_toArray, List.set_cons_zero, List.set_cons_succ]
         refine anyL_take (i := 5) (oi := { dst := some 145, op := Go.Op.load 9 (Go.Operand.tmp 144), type := 9, pos := "ref.go:68", after := #[{ on := 4, ground := Go.Ground.data }], guard := none }) (v := ?_) rfl (by decide) (by kernel_rfl) (by kernel_rfl) (by kernel_rfl) (by kernel_rfl) (fun _ _ _ h => h) (Or.inl ⟨by rfl, ?_⟩) hS0 ?_
         rotate_left
         ·intro wz hSz
          obtain ⟨z0, z1, z2⟩ := hSz
          go_simp
          (try with_reducible rfl)
         try simp only [Act.put, List.setIfInBounds_toArray, List.set_cons_zero, List.set_cons_succ]
         refine anyL_take (i := 6) (oi := { dst := some 146, op := Go.Op.fieldAddr 73 (Go.Operand.tmp 9) 5, type := 0, pos := "ref.go:68", after := #[], guard := none }) (v := ?_) rfl (by decide) (by kernel_rfl) (by kernel_rfl) (by kernel_rfl) (by kernel_rfl) (fun _ _ _ h => h) (Or.inl ⟨by rfl, ?_⟩) hS0 ?_
         rotate_left
         ·intro wz hSz
          obtain ⟨z0, z1, z2⟩ := hSz
          go_simp
          (try with_reducible rfl)
         try simp only [Act.put, List.setIfInBounds_toArray, List.set_cons_zero, List.set_cons_succ]
         refine anyL_take (i := 7) (oi := { dst := some 147, op := Go.Op.load 3 (Go.Operand.tmp 146), type := 3, pos := "ref.go:68", after := #[{ on := 6, ground := Go.Ground.data }], guard := none }) (v := ?_) rfl (by decide) (by kernel_rfl) (by kernel_rfl) (by kernel_rfl) (by kernel_rfl) (fun _ _ _ h => h) (Or.inl ⟨by rfl, ?_⟩) hS0 ?_
         rotate_left
         ·intro wz hSz
          obtain ⟨z0, z1, z2⟩ := hSz
          go_simp
          (try with_reducible rfl)
         try simp only [Act.put, List.setIfInBounds_toArray, List.set_cons_zero, List.set_cons_succ]
         refine anyL_take (i := 8) (oi := { dst := some 148, op := Go.Op.build 25 #[(0, Go.Operand.const (Go.Value.int Go.IntKind.i64 1)), (5, Go.Operand.tmp 145), (6, Go.Operand.tmp 147)], type := 25, pos := "ref.go:68", after := #[{ on := 5, ground := Go.Ground.data }, { on := 7, ground := Go.Ground.data }], guard := none }) (v := ?_) rfl (by decide) (by kernel_rfl) (by kernel_rfl) (by kernel_rfl) (by kernel_rfl) (fun _ _ _ h => h) (Or.inl ⟨by rfl, ?_⟩) hS0 ?_
         rotate_left
         ·intro wz hSz
          obtain ⟨z0, z1, z2⟩ := hSz
          go_simp
          (try with_reducible rfl)
         try simp only [Act.put, List.setIfInBounds_toArray, List.set_cons_zero, List.set_cons_succ]
         refine aLr (rs := [0, 9]) (by kernel_rfl) (by simp) ?_
         refine AllL.cons (o := { dst := some 140, op := Go.Op.buildSlice 23 0 #[], type := 23, pos := "ref.go:68", after := #[], guard := none }) rfl (fun K hK => ?_) ?_
         ·go_simp
          refine hK _ _ (hSB _ (bA _)) ?_
          clear hK K
          try simp only [Act.put, List.setIfInBounds_toArray, List.set_cons_zero, List.set_cons_succ]
          refine aLr (rs := [3, 9]) (by kernel_rfl) (by simp) ?_
          refine AllL.cons (o := { dst := some 143, op := Go.Op.call { callee := Go.Callee.builtin Go.Builtin.append, args := #[Go.Operand.tmp 140, Go.Operand.tmp 142], argTypes := #[23, 23] }, type := 23, pos := "ref.go:68", after := #[{ on := 0, ground := Go.Ground.data }, { on := 2, ground := Go.Ground.data }], guard := none }) rfl (fun K hK => ?_) ?_
          ·refine step_copy rfl (.tmp 140) (.tmp 142) rfl wq.heap.size wq.heap.size g n cap xs rfl rfl hE1 hxl (row_news own0 (bA _)) hx1 hn0 hn9 ((bA _)).size ?_
           intro g1 cap1 w2 own1 grow1 hg1
           try go_simp
           have b2 := gb (bA _) grow1 ((bA _)).size (Nat.le_refl _)
           refine hK _ _ (hSB _ b2) ?_
           clear hK K
           try simp only [Act.put, List.setIfInBounds_toArray, List.set_cons_zero, List.set_cons_succ]
           refine aLr (rs := [9]) (by kernel_rfl) (by simp) ?_
           refine AllL.cons (o := { dst := some 149, op := Go.Op.buildSlice 23 1 #[(0, Go.Operand.tmp 148)], type := 23, pos := "ref.go:68", after := #[{ on := 8, ground := Go.Ground.data }], guard := none }) rfl (fun K hK => ?_) ?_
           ·go_simp
            refine hK _ _ (hSB _ (b2.alloc b2.size _)) ?_
            clear hK K
            try simp only [Act.put, List.setIfInBounds_toArray, List.set_cons_zero, List.set_cons_succ]
            refine aLr (rs := [10]) (by kernel_rfl) (by simp) ?_
            refine AllL.cons (o := { dst := some 150, op := Go.Op.call { callee := Go.Callee.builtin Go.Builtin.append, args := #[Go.Operand.tmp 143, Go.Operand.tmp 149], argTypes := #[23, 23] }, type := 23, pos := "ref.go:68", after := #[{ on := 3, ground := Go.Ground.data }, { on := 9, ground := Go.Ground.data }, { on := 3, ground := Go.Ground.chain }], guard := none }) rfl (fun K hK => ?_) ?_
            ·refine step_one rfl (.tmp 143) (.tmp 149) rfl wq.heap.size w2.heap.size n xs (.slice (some ⟨g1, 0, none⟩) n cap1) (.int .i64 1) (.string ⟨#[]⟩) (.string ⟨#[]⟩) (.slice none 0 0) (.slice none 0 0) (.string (oB u.tx)) (.int .i64 u.at') rfl rfl (own1.alloc _) (heap_alloc_new w2 _) hk1 hn9 ((b2.alloc b2.size _)).size ?_
             intro g5 cap5 w5 own5 grow5
             try go_simp
             have b5 := gb (b2.alloc b2.size _) grow5 ((b2.alloc b2.size _)).size hg1
             refine hK _ _ (hSB _ b5) ?_
             clear hK K
             try simp only [Act.put, List.setIfInBounds_toArray, List.set_cons_zero, List.set_cons_succ]
             refine anyL_takeD (i := 11) (oi := { dst := some 151, op := Go.Op.fieldAddr 25 (Go.Operand.tmp 8) 4, type := 0, pos := "ref.go:68", after := #[{ on := 0, ground := Go.Ground.phase }, { on := 1, ground := Go.Ground.phase }, { on := 2, ground := Go.Ground.phase }, { on := 3, ground := Go.Ground.phase }, { on := 4, ground := Go.Ground.phase }, { on := 5, ground := Go.Ground.phase }, { on := 6, ground := Go.Ground.phase }, { on := 7, ground := Go.Ground.phase }, { on := 8, ground := Go.Ground.phase }, { on := 9, ground := Go.Ground.phase }, { on := 10, ground := Go.Ground.phase }], guard := none }) (v := ?_) rfl (by decide) (by kernel_rfl) (by kernel_rfl) (by kernel_rfl) (fun _ _ _ h => h) (Or.inl ⟨by rfl, ?_⟩) ?_
             rotate_left
             ·intro wz _
              go_simp
              (try with_reducible rfl)
             try simp only [Act.put, List.setIfInBounds_toArray, List.set_cons_zero, List.set_cons_succ]
             refine aLr (rs := [12]) (by kernel_rfl) (by simp) ?_
             refine AllL.last (o := { dst := none, op := Go.Op.store 23 (Go.Operand.tmp 151) (Go.Operand.tmp 150), type := 0, pos := "ref.go:68", after := #[{ on := 11, ground := Go.Ground.data }, { on := 10, ground := Go.Ground.data }, { on := 10, ground := Go.Ground.chain }, { on := 0, ground := Go.Ground.phase }, { on := 1, ground := Go.Ground.phase }, { on := 2, ground := Go.Ground.phase }, { on := 3, ground := Go.Ground.phase }, { on := 4, ground := Go.Ground.phase }, { on := 5, ground := Go.Ground.phase }, { on := 6, ground := Go.Ground.phase }, { on := 7, ground := Go.Ground.phase }, { on := 8, ground := Go.Ground.phase }, { on := 9, ground := Go.Ground.phase }, { on := 10, ground := Go.Ground.phase }], guard := none }) rfl (by decide) (fun K hK => ?_)
             have s5 := (hNod.more b5).cell 4
             have f5 := (hNod.more b5).fr 4
             simp only [List.getElem?_toArray, List.getElem?_cons_succ, List.getElem?_cons_zero] at s5
             go_simp
             refine hK _ _ ?_
             clear hK K s5 f5
             try simp only [Act.put, List.setIfInBounds_toArray, List.set_cons_zero, List.set_cons_succ]
             refine anyL_done (by kernel_rfl) ?_ _
             have HPU := Lib.hid (HLQ.out.push b5 (fun L _ => char_is _ u) (by rw [← HNN.out]; exact own5))
             have HNP := Lib.hid HPU.out.par.cells.2.1
             go_wp2
             go_roundw
             case rel => exact ⟨j + 1, G, kids ++ [charN u], _, _, hlt, by omega, by omega, HRN.out, by rw [List.length_append, List.length_singleton]; omega, HKV.out, fun e => absurd e (by simp), HPU.out⟩
             case measure => rw [M1.out, HNP.out]; simp [intOf]; omega
            exact AllL.nil
           exact AllL.nil
          refine AllL.cons (o := { dst := some 149, op := Go.Op.buildSlice 23 1 #[(0, Go.Operand.tmp 148)], type := 23, pos := "ref.go:68", after := #[{ on := 8, ground := Go.Ground.data }], guard := none }) rfl (fun K hK => ?_) ?_
          ·go_simp
           refine hK _ _ (hSB _ (bAA _ _)) ?_
           clear hK K
           try simp only [Act.put, List.setIfInBounds_toArray, List.set_cons_zero, List.set_cons_succ]
           refine aLr (rs := [3]) (by kernel_rfl) (by simp) ?_
           refine AllL.cons (o := { dst := some 143, op := Go.Op.call { callee := Go.Callee.builtin Go.Builtin.append, args := #[Go.Operand.tmp 140, Go.Operand.tmp 142], argTypes := #[23, 23] }, type := 23, pos := "ref.go:68", after := #[{ on := 0, ground := Go.Ground.data }, { on := 2, ground := Go.Ground.data }], guard := none }) rfl (fun K hK => ?_) ?_
           ·refine step_copy rfl (.tmp 140) (.tmp 142) rfl wq.heap.size wq.heap.size g n cap xs rfl rfl hE1K hxl (row_news own0 (bAA _ _)) hx1 hn0 hn9 ((bAA _ _)).size ?_
            intro g1 cap1 w2 own1 grow1 hg1
            try go_simp
            have b2 := gb (bAA _ _) grow1 ((bAA _ _)).size (Nat.le_refl _)
            refine hK _ _ (hSB _ b2) ?_
            clear hK K
            try simp only [Act.put, List.setIfInBounds_toArray, List.set_cons_zero, List.set_cons_succ]
            refine aLr (rs := [10]) (by kernel_rfl) (by simp) ?_
            refine AllL.cons (o := { dst := some 150, op := Go.Op.call { callee := Go.Callee.builtin Go.Builtin.append, args := #[Go.Operand.tmp 143, Go.Operand.tmp 149], argTypes := #[23, 23] }, type := 23, pos := "ref.go:68", after := #[{ on := 3, ground := Go.Ground.data }, { on := 9, ground := Go.Ground.data }, { on := 3, ground := Go.Ground.chain }], guard := none }) rfl (fun K hK => ?_) ?_
            ·refine step_one rfl (.tmp 143) (.tmp 149) rfl wq.heap.size (wq.heap.size + 1) n xs (.slice (some ⟨g1, 0, none⟩) n cap1) (.int .i64 1) (.string ⟨#[]⟩) (.string ⟨#[]⟩) (.slice none 0 0) (.slice none 0 0) (.string (oB u.tx)) (.int .i64 u.at') rfl rfl own1 (heap_grown grow1 (by omega) blkB) hk1 hn9 (b2).size ?_
             intro g5 cap5 w5 own5 grow5
             try go_simp
             have b5 := gb b2 grow5 (b2).size hg1
             refine hK _ _ (hSB _ b5) ?_
             clear hK K
             try simp only [Act.put, List.setIfInBounds_toArray, List.set_cons_zero, List.set_cons_succ]
             refine anyL_takeD (i := 11) (oi := { dst := some 151, op := Go.Op.fieldAddr 25 (Go.Operand.tmp 8) 4, type := 0, pos := "ref.go:68", after := #[{ on := 0, ground := Go.Ground.phase }, { on := 1, ground := Go.Ground.phase }, { on := 2, ground := Go.Ground.phase }, { on := 3, ground := Go.Ground.phase }, { on := 4, ground := Go.Ground.phase }, { on := 5, ground := Go.Ground.phase }, { on := 6, ground := Go.Ground.phase }, { on := 7, ground := Go.Ground.phase }, { on := 8, ground := Go.Ground.phase }, { on := 9, ground := Go.Ground.phase }, { on := 10, ground := Go.Ground.phase }], guard := none }) (v := ?_) rfl (by decide) (by kernel_rfl) (by kernel_rfl) (by kernel_rfl) (fun _ _ _ h => h) (Or.inl ⟨by rfl, ?_⟩) ?_
             rotate_left
             ·intro wz _
              go_simp
              (try with_reducible rfl)
             try simp only [Act.put, List.setIfInBounds_toArray, List.set_cons_zero, List.set_cons_succ]
             refine aLr (rs := [12]) (by kernel_rfl) (by simp) ?_
             refine AllL.last (o := { dst := none, op := Go.Op.store 23 (Go.Operand.tmp 151) (Go.Operand.tmp 150), type := 0, pos := "ref.go:68", after := #[{ on := 11, ground := Go.Ground.data }, { on := 10, ground := Go.Ground.data }, { on := 10, ground := Go.Ground.chain }, { on := 0, ground := Go.Ground.phase }, { on := 1, ground := Go.Ground.phase }, { on := 2, ground := Go.Ground.phase }, { on := 3, ground := Go.Ground.phase }, { on := 4, ground := Go.Ground.phase }, { on := 5, ground := Go.Ground.phase }, { on := 6, ground := Go.Ground.phase }, { on := 7, ground := Go.Ground.phase }, { on := 8, ground := Go.Ground.phase }, { on := 9, ground := Go.Ground.phase }, { on := 10, ground := Go.Ground.phase }], guard := none }) rfl (by decide) (fun K hK => ?_)
             have s5 := (hNod.more b5).cell 4
             have f5 := (hNod.more b5).fr 4
             simp only [List.getElem?_toArray, List.getElem?_cons_succ, List.getElem?_cons_zero] at s5
             go_simp
             refine hK _ _ ?_
             clear hK K s5 f5
             try simp only [Act.put, List.setIfInBounds_toArray, List.set_cons_zero, List.set_cons_succ]
             refine anyL_done (by kernel_rfl) ?_ _
             have HPU := Lib.hid (HLQ.out.push b5 (fun L _ => char_is _ u) (by rw [← HNN.out]; exact own5))
             have HNP := Lib.hid HPU.out.par.cells.2.1
             go_wp2
             go_roundw
             case rel => exact ⟨j + 1, G, kids ++ [charN u], _, _, hlt, by omega, by omega, HRN.out, by rw [List.length_append, List.length_singleton]; omega, HKV.out, fun e => absurd e (by simp), HPU.out⟩
             case measure => rw [M1.out, HNP.out]; simp [intOf]; omega
            exact AllL.nil
           exact AllL.nil
          exact AllL.nil
         refine AllL.cons (o := { dst := some 149, op := Go.Op.buildSlice 23 1 #[(0, Go.Operand.tmp 148)], type := 23, pos := "ref.go:68", after := #[{ on := 8, ground := Go.Ground.data }], guard := none }) rfl (fun K hK => ?_) ?_
         ·go_simp
          refine hK _ _ (hSB _ (bA _)) ?_
          clear hK K
          try simp only [Act.put, List.setIfInBounds_toArray, List.set_cons_zero, List.set_cons_succ]
          refine aLr (rs := [0]) (by kernel_rfl) (by simp) ?_
          refine AllL.cons (o := { dst := some 140, op := Go.Op.buildSlice 23 0 #[], type := 23, pos := "ref.go:68", after := #[], guard := none }) rfl (fun K hK => ?_) ?_
          ·go_simp
           refine hK _ _ (hSB _ (bAA _ _)) ?_
           clear hK K
           try simp only [Act.put, List.setIfInBounds_toArray, List.set_cons_zero, List.set_cons_succ]
           refine aLr (rs := [3]) (by kernel_rfl) (by simp) ?_
           refine AllL.cons (o := { dst := some 143, op := Go.Op.call { callee := Go.Callee.builtin Go.Builtin.append, args := #[Go.Operand.tmp 140, Go.Operand.tmp 142], argTypes := #[23, 23] }, type := 23, pos := "ref.go:68", after := #[{ on := 0, ground := Go.Ground.data }, { on := 2, ground := Go.Ground.data }], guard := none }) rfl (fun K hK => ?_) ?_
           ·refine step_copy rfl (.tmp 140) (.tmp 142) rfl wq.heap.size (wq.heap.size + 1) g n cap xs rfl rfl hE2 hxl (row_news own0 (bAA _ _)) hx1 hn0 hn9 ((bAA _ _)).size ?_
            intro g1 cap1 w2 own1 grow1 hg1
            try go_simp
            have b2 := gb (bAA _ _) grow1 ((bAA _ _)).size (Nat.le_succ _)
            refine hK _ _ (hSB _ b2) ?_
            clear hK K
            try simp only [Act.put, List.setIfInBounds_toArray, List.set_cons_zero, List.set_cons_succ]
            refine aLr (rs := [10]) (by kernel_rfl) (by simp) ?_
            refine AllL.cons (o := { dst := some 150, op := Go.Op.call { callee := Go.Callee.builtin Go.Builtin.append, args := #[Go.Operand.tmp 143, Go.Operand.tmp 149], argTypes := #[23, 23] }, type := 23, pos := "ref.go:68", after := #[{ on := 3, ground := Go.Ground.data }, { on := 9, ground := Go.Ground.data }, { on := 3, ground := Go.Ground.chain }], guard := none }) rfl (fun K hK => ?_) ?_
            ·refine step_one rfl (.tmp 143) (.tmp 149) rfl wq.heap.size wq.heap.size n xs (.slice (some ⟨g1, 0, none⟩) n cap1) (.int .i64 1) (.string ⟨#[]⟩) (.string ⟨#[]⟩) (.slice none 0 0) (.slice none 0 0) (.string (oB u.tx)) (.int .i64 u.at') rfl rfl own1 (heap_grown grow1 (by omega) blkC) hk1 hn9 (b2).size ?_
             intro g5 cap5 w5 own5 grow5
             try go_simp
             have b5 := gb b2 grow5 (b2).size hg1
             refine hK _ _ (hSB _ b5) ?_
             clear hK K
             try simp only [Act.put, List.setIfInBounds_toArray, List.set_cons_zero, List.set_cons_succ]
             refine anyL_takeD (i := 11) (oi := { dst := some 151, op := Go.Op.fieldAddr 25 (Go.Operand.tmp 8) 4, type := 0, pos := "ref.go:68", after := #[{ on := 0, ground := Go.Ground.phase }, { on := 1, ground := Go.Ground.phase }, { on := 2, ground := Go.Ground.phase }, { on := 3, ground := Go.Ground.phase }, { on := 4, ground := Go.Ground.phase }, { on := 5, ground := Go.Ground.phase }, { on := 6, ground := Go.Ground.phase }, { on := 7, ground := Go.Ground.phase }, { on := 8, ground := Go.Ground.phase }, { on := 9, ground := Go.Ground.phase }, { on := 10, ground := Go.Ground.phase }], guard := none }) (v := ?_) rfl (by decide) (by kernel_rfl) (by kernel_rfl) (by kernel_rfl) (fun _ _ _ h => h) (Or.inl ⟨by rfl, ?_⟩) ?_
             rotate_left
             ·intro wz _
              go_simp
              (try with_reducible rfl)
             try simp only [Act.put, List.setIfInBounds_toArray, List.set_cons_zero, List.set_cons_succ]
             refine aLr (rs := [12]) (by kernel_rfl) (by simp) ?_
             refine AllL.last (o := { dst := none, op := Go.Op.store 23 (Go.Operand.tmp 151) (Go.Operand.tmp 150), type := 0, pos := "ref.go:68", after := #[{ on := 11, ground := Go.Ground.data }, { on := 10, ground := Go.Ground.data }, { on := 10, ground := Go.Ground.chain }, { on := 0, ground := Go.Ground.phase }, { on := 1, ground := Go.Ground.phase }, { on := 2, ground := Go.Ground.phase }, { on := 3, ground := Go.Ground.phase }, { on := 4, ground := Go.Ground.phase }, { on := 5, ground := Go.Ground.phase }, { on := 6, ground := Go.Ground.phase }, { on := 7, ground := Go.Ground.phase }, { on := 8, ground := Go.Ground.phase }, { on := 9, ground := Go.Ground.phase }, { on := 10, ground := Go.Ground.phase }], guard := none }) rfl (by decide) (fun K hK => ?_)
             have s5 := (hNod.more b5).cell 4
             have f5 := (hNod.more b5).fr 4
             simp only [List.getElem?_toArray, List.getElem?_cons_succ, List.getElem?_cons_zero] at s5
             go_simp
             refine hK _ _ ?_
             clear hK K s5 f5
             try simp only [Act.put, List.setIfInBounds_toArray, List.set_cons_zero, List.set_cons_succ]
             refine anyL_done (by kernel_rfl) ?_ _
             have HPU := Lib.hid (HLQ.out.push b5 (fun L _ => char_is _ u) (by rw [← HNN.out]; exact own5))
             have HNP := Lib.hid HPU.out.par.cells.2.1
             go_wp2
             go_roundw
             case rel => exact ⟨j + 1, G, kids ++ [charN u], _, _, hlt, by omega, by omega, HRN.out, by rw [List.length_append, List.length_singleton]; omega, HKV.out, fun e => absurd e (by simp), HPU.out⟩
             case measure => rw [M1.out, HNP.out]; simp [intOf]; omega
            exact AllL.nil
           exact AllL.nil
          exact AllL.nil
         exact AllL.nil
    ·obtain rfl : j = l.length := by omega
     have hjz : ¬ (l.length : Int) < (l.length : Int) := by omega
     have hrel := HREL.out
     rw [kidsP, List.getElem?_eq_none (Nat.le_refl _)] at hrel
     simp only at hrel
     have HRL := Lib.hid hrel
     go_wp2
     go_quiet (fail)
     have hL1 := HL.out.below (below_drewN (Below.refl wr.heap.size wr) nq)
     generalize wr.drewN nq = wq at hL1 ⊢
     have HL1 := Lib.hid hL1
     clear hL1 c0 c1 hrel
     go_wp2_with fail
     refine (tref_fail p (some ad) l.length ct (l.length : Int) a0 0 z 8 wq (HL1.out.par)).mono ?_
     rintro e w9 ⟨he9, hP9, k9⟩
     replace he9 : e = .returned (.agg #[.int .i64 0, .string ⟨#[]⟩, .string ⟨#[]⟩, .slice none 0 0, .slice none 0 0, .string ⟨#[]⟩, .int .i64 0]) := he9
     subst he9
     have R9 := (HL1.out.res).keep k9 (by omega)
     have K9 := (HL1.out.keep).trans k9
     obtain ⟨⟨r0, r1, r2, r3, r4, r5, r6⟩, g0, g1, g2, g3, g4, g5, g6⟩ := R9.seven
     have HK9 := Lib.hid K9
     have HP9 := Lib.hid hP9
     clear R9 K9 k9 hP9
     generalize hq : w.heap.size = hs at r0 r1 r2 r3 r4 r5 r6 g0 g1 g2 g3 g4 g5 g6 hRp ⊢
     have HQ := Lib.hid hq
     clear hq
     go_wp2
     exact bodyPost_ret (v := zeroV) (by simp [results, Tryz.results33, go_sem, cSs, r0, r1, r2, r3, r4, r5, r6, zeroV]) rfl (by rw [HRL.out]; exact ⟨zeroV, rfl, ⟨_, _, par_sev HP9.out hRp _ _ _ _ _ _ _, fun e => absurd (show (8 : Int) = 0 from e) (by decide), fun _ => rfl⟩, keep_sev HK9.out (by have := HQ.out; omega) _ _ _ _ _ _ _, fun L _ => zero_is _⟩)
end
end Go.Proofs.YtppmoeidgefkpaaGreatDoor
