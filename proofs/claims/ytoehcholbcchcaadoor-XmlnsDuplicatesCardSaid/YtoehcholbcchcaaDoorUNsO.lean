/- Packed from the texts NsO. -/
import Derived.Test.YtoehcholbcchcaaDoorUkH
import Derived.Deep.QuietTactic
import Derived.BigQuiet
section
namespace Go.Proofs.YtoehcholbcchcaaDoor
open Go.RowKit Go.Maps
def ResolverR (p : Option Addr) (w : World) (e : Ending) (w' : World) : Prop := ∃ c1 c2 eb, e = .returned (.func (.func 87) #[] #[.pointer (some ⟨c1, 0, none⟩), .pointer (some ⟨c2, 0, none⟩)]) ∧ w.heap.size ≤ c1 ∧ w.heap.size ≤ c2 ∧ w.heap.size ≤ eb ∧
  Blk w' c1 #[.pointer p] 60 ∧ Blk w' c2 #[.map (some eb)] 150 ∧ RSet w' eb [] ∧ Below w.heap.size w w'
set_option maxRecDepth 100000 in
set_option maxHeartbeats 4000000 in
theorem ns_attrResolver (p : Option Addr) (w : World) : Calls Tryd.prog 69 #[.pointer p] w fun e w' => ResolverR p w e w' := by
  have hmf : ∀ (fn : Fn) (first cap : Array Value) (w : World), (Instr.makeFunc fn first cap).run Tryd.prog w = .ok (.func fn first cap) w := fun _ _ _ _ => rfl
  have hmm := @run_makeMap Tryd.prog
  have hz1 : (w.alloc (.cells #[.pointer p] 60)).heap.size = w.heap.size + 1 := by simp
  have hz2 : ((w.alloc (.cells #[.pointer p] 60)).alloc (.map #[] 0)).heap.size = w.heap.size + 2 := by simp
  have b1 : Below w.heap.size w (w.alloc (.cells #[.pointer p] 60)) := (Below.refl _ _).alloc (Nat.le_refl _) _
  have hR : Hid (ResolverR p w (.returned (.func (.func 87) #[] #[.pointer (some ⟨w.heap.size, 0, none⟩), .pointer (some ⟨w.heap.size + 2, 0, none⟩)])) (((w.alloc (.cells #[.pointer p] 60)).alloc (.map #[] 0)).alloc (.cells #[.map (some (w.heap.size + 1))] 150))) := by
    refine Lib.hid ⟨w.heap.size, w.heap.size + 2, w.heap.size + 1, rfl, Nat.le_refl _, by omega, by omega, ?_, ?_, ⟨?_, fun y hy => (by cases hy)⟩, ?_⟩
    · exact ((Blk.new w _ _).more ((Below.refl _ _).alloc (Nat.le_refl _) _)).more ((Below.refl _ _).alloc (Nat.le_refl _) _)
    · have := Blk.new ((w.alloc (.cells #[.pointer p] 60)).alloc (.map #[] 0)) #[.map (some (w.heap.size + 1))] 150
      rw [hz2] at this
      exact this
    · have := World.ownsMap_made (H := Unit) (w.alloc (.cells #[.pointer p] 60)) Tryd.prog 152 (plainElem (H := Unit) Tryd.prog 4)
      rw [hz1] at this
      exact this.alloc _
    · exact (b1.alloc (by omega) _).alloc (by omega) _
  clear hz1 hz2 b1
  go_enter Tryd.func69, Tryd.ntmps69
  go_wp2
  exact bodyPost_ret (v := .func (.func 87) #[] #[.pointer (some ⟨w.heap.size, 0, none⟩), .pointer (some ⟨w.heap.size + 2, 0, none⟩)]) (by simp [results, Tryd.results69, go_sem]) rfl hR.out
theorem attrsP_step (sc : Sc) (al acc : List AttrD) (i : Nat) (h : i < al.length) : attrsP sc (al.drop i) acc = match declP al[i].nm with
    | some _ => attrsP sc (al.drop (i + 1)) acc
    | none => match spaceA sc al[i].nm with
      | none => (acc, al[i].at', 13)
      | some sp => if ∃ x ∈ acc, x.sp = sp ∧ x.nm = (splitP al[i].nm).2.1 then (acc, al[i].at', 10) else attrsP sc (al.drop (i + 1)) (acc ++ [⟨sp, (splitP al[i].nm).2.1, al[i].va, al[i].at'⟩]) := by
  rw [List.drop_eq_getElem_cons h, attrsP]
  rfl
def RAcc (N : List ByteArray) (l : Rs) (acc : List AttrD) : Prop := ∀ sp k loc, numF N sp = some k → (hasR l k loc = true ↔ ∃ x ∈ acc, x.sp = sp ∧ x.nm = loc)
theorem RAcc.nil (N : List ByteArray) : RAcc N [] [] := fun sp k loc _ => ⟨fun h => (by cases h), fun ⟨x, hx, _⟩ => (by cases hx)⟩
theorem RAcc.push {N : List ByteArray} {l : Rs} {acc : List AttrD} (h : RAcc N l acc) {sp loc va : ByteArray} {k : Nat} {a : Int} (hk : numF N sp = some k) : RAcc N ((k, loc) :: l) (acc ++ [⟨sp, loc, va, a⟩]) := by
  intro sp' k' loc' hk'
  rw [hasR, Bool.or_eq_true, decide_eq_true_eq, h sp' k' loc' hk']
  constructor
  · rintro (⟨h1, h2⟩ | ⟨x, hx, hy⟩)
    · simp only at h1 h2
      subst h1
      subst h2
      exact ⟨_, List.mem_append_right _ (List.mem_singleton.2 rfl), numF_inj N _ _ k hk hk', rfl⟩
    · exact ⟨x, List.mem_append_left _ hx, hy⟩
  · rintro ⟨x, hx, h1, h2⟩
    rcases List.mem_append.1 hx with hx | hx
    · exact .inr ⟨x, hx, h1, h2⟩
    · rw [List.mem_singleton.1 hx] at h1 h2
      simp only at h1 h2
      subst h1
      subst h2
      rw [hk] at hk'
      exact .inl ⟨Option.some.inj hk', rfl⟩
def AttrsR (sc : Sc) (al : List AttrD) (w : World) (e : Ending) (w' : World) : Prop := Below w.heap.size w w' ∧
  (((attrsP sc al []).2.2 ≠ 0 ∧ e = .returned (.tuple #[.slice none 0 0, .int .i64 (attrsP sc al []).2.1, .int .i64 (attrsP sc al []).2.2])) ∨
   ((attrsP sc al []).2.2 = 0 ∧ ∃ pa ca, e = .returned (.tuple #[.slice pa (attrsP sc al []).1.length ca, .int .i64 0, .int .i64 0]) ∧ w'.ownsRow w.heap.size 43 4 (.slice pa (attrsP sc al []).1.length ca) (attrsP sc al []).1.length (attrsCells (attrsP sc al []).1)))
structure AL (N : List ByteArray) (sc : Sc) (al : List AttrD) (c1 c2 eb : Nat) (p : Option Addr) (w wr : World) (i : Nat) (v : Value) (acc : List AttrD) (l : Rs) : Prop where
  len : l.length ≤ i
  alen : acc.length ≤ i
  at' : attrsP sc al [] = attrsP sc (al.drop i) acc
  row : wr.ownsRow w.heap.size 43 4 v acc.length (attrsCells acc)
  below : Below w.heap.size w wr
  env : Blk wr c1 #[.pointer p] 60
  box : Blk wr c2 #[.map (some eb)] 150
  set : RSet wr eb l
  acc : RAcc N l acc
  lo1 : w.heap.size ≤ c1
  lo2 : w.heap.size ≤ c2
  lo3 : w.heap.size ≤ eb
theorem AL.more {N : List ByteArray} {sc : Sc} {al : List AttrD} {c1 c2 eb : Nat} {p : Option Addr} {w wr wx : World} {i : Nat} {v : Value} {acc : List AttrD} {l : Rs} (h : AL N sc al c1 c2 eb p w wr i v acc l) (hb : Below wr.heap.size wr wx) : AL N sc al c1 c2 eb p w wx i v acc l :=
  ⟨h.len, h.alen, h.at', row_below h.row hb, h.below.trans (hb.mono h.below.size), h.env.more hb, h.box.more hb, h.set.same (hb.block _ h.set.lt), h.acc, h.lo1, h.lo2, h.lo3⟩
theorem AL.skip {N : List ByteArray} {sc : Sc} {al : List AttrD} {c1 c2 eb : Nat} {p : Option Addr} {w wr : World} {i : Nat} {v : Value} {acc : List AttrD} {l : Rs} (h : AL N sc al c1 c2 eb p w wr i v acc l) (hd : attrsP sc (al.drop i) acc = attrsP sc (al.drop (i + 1)) acc) : AL N sc al c1 c2 eb p w wr (i + 1) v acc l :=
  ⟨by have := h.len; omega, by have := h.alen; omega, h.at'.trans hd, h.row, h.below, h.env, h.box, h.set, h.acc, h.lo1, h.lo2, h.lo3⟩
theorem AL.fails {N : List ByteArray} {sc : Sc} {al : List AttrD} {c1 c2 eb : Nat} {p : Option Addr} {w wr : World} {i : Nat} {v : Value} {acc : List AttrD} {l : Rs} {a er : Int} (h : AL N sc al c1 c2 eb p w wr i v acc l) (hd : attrsP sc (al.drop i) acc = (acc, a, er)) (her : er ≠ 0) : AttrsR sc al w (.returned (.tuple #[.slice none 0 0, .int .i64 a, .int .i64 er])) wr := by
  have he := h.at'.trans hd
  exact ⟨h.below, .inl ⟨by rw [he]; exact her, by rw [he]⟩⟩
set_option maxRecDepth 100000 in
set_option maxHeartbeats 8000000 in
theorem ns_attrs (B T nb : Nat) (N : List ByteArray) (E : List Fr) (sc : Sc) (p : Option Addr) (pa : Option Addr) (ca : Nat) (al : List AttrD) (w : World) (hK : NsK B w) (hE : EnvAt T nb w E p) (hok : EnvOk N E sc) (h0 : numF N noB = some 0) (hN : N.length ≤ 1000000000) (hA : AttrsAt w pa al) (hO : AtOk al) (hl : al.length ≤ 10000000) :
    Calls Tryd.prog 50 #[.pointer p, .slice pa al.length ca] w fun e w' => AttrsR sc al w e w' := by
  obtain ⟨i0, hi0, hi1, hi3, hi4⟩ := info_parts kinfo_attr
  have cR := ns_attrResolver p w
  have HK := Lib.hid hK
  have HE := Lib.hid hE
  have HOK := Lib.hid hok
  have HA := Lib.hid hA
  have HO := Lib.hid hO
  clear hK hE hok hA hO
  go_enter Tryd.func50, Tryd.ntmps50
  go_wp2_with fail
  refine cR.mono ?_
  rintro e w1 ⟨c1, c2, eb, rfl, l1, l2, l3, k1, k2, hS, b1⟩
  have H0 : Hid (AL N sc al c1 c2 eb p w w1 0 (.slice none 0 0) [] []) := Lib.hid ⟨Nat.le_refl _, Nat.le_refl _, rfl, World.ownsRow_nil _ _ _ _, b1, k1, k2, hS, RAcc.nil N, l1, l2, l3⟩
  clear k1 k2 hS b1 cR
  go_wp2
  go_loopw [8, 18] (fun v q wr => ∃ (i : Nat) (acc : List AttrD) (l : Rs), i ≤ al.length ∧ q = .int .i64 i ∧ AL N sc al c1 c2 eb p w wr i v acc l) (fun _ q _ => al.length - (intOf q).toNat)
  case atStart => exact ⟨0, [], [], Nat.zero_le _, rfl, H0.out⟩
  case round =>
    obtain ⟨i, acc, l, hi, rfl, hD⟩ := hrel
    have hz := hD.below.size
    by_cases hlt : i < al.length
    · have hiz : (i : Int) < (al.length : Int) := by omega
      obtain ⟨a, rfl, a0, a1, a2, a3⟩ := (HA.out.below hD.below) i hlt
      have hst := attrsP_step sc al acc i hlt
      have hAi := HO.out al[i] (List.getElem_mem _)
      obtain ⟨x, hx⟩ : ∃ x, al[i] = x := ⟨_, rfl⟩
      rw [hx] at a0 a1 a2 a3 hst hAi
      obtain ⟨cc, hcc⟩ : ∃ c, a.add (i * 4) = c := ⟨_, rfl⟩
      rw [hcc] at a0 a1 a2 a3
      simp only [Addr.add, Nat.reduceEqDiff, ↓reduceIte] at a1 a2 a3
      obtain ⟨sp, nm, va, at'⟩ := x
      simp only at a0 a1 a2 a3 hst hAi
      have bA : Below wr.heap.size wr (wr.alloc (.cells #[.string sp, .string nm, .string va, .int .i64 at'] 43)) := (Below.refl _ _).alloc (Nat.le_refl _) _
      have kA : Blk (wr.alloc (.cells #[.string sp, .string nm, .string va, .int .i64 at'] 43)) wr.heap.size #[.string sp, .string nm, .string va, .int .i64 at'] 43 := Blk.new wr _ _
      have DA := hD.more bA
      have tA := (HK.out.more DA.below).tabs
      have cD := ns_declaration sp nm va at' _ hAi.1 tA
      have HDA := Lib.hid DA
      have HKA := Lib.hid kA
      have HAI := Lib.hid hAi
      have hzA := bA.size
      have HGR := Lib.hid (show ∀ g, u8.ownBlock = some g → g < wr.heap.size from fun g hg => (row_kind hD.row g hg).2.1)
      have hc1l := hD.env.lt
      have hc2l := hD.box.lt
      clear DA kA bA hD hAi hx tA
      cases hd : declP nm with
      | some d =>
        rw [hd] at cD hst
        simp only at hst
        simp only [Option.getD, Option.isSome] at cD
        have HST := Lib.hid hst
        clear hst hd
        go_wp2_with fail
        refine cD.mono ?_
        rintro e w2 ⟨rfl, b2⟩
        have HS3 := Lib.hid ((HDA.out.more b2).skip HST.out)
        clear b2
        go_wp2
        go_roundw
        case rel => exact ⟨i + 1, acc, l, by omega, by go_num, HS3.out⟩
        case measure => simp [intOf]; omega
      | none =>
        rw [hd] at cD hst
        simp only at hst
        simp only [Option.getD, Option.isSome] at cD
        have HST := Lib.hid hst
        clear hst hd
        go_wp2_with fail
        refine cD.mono ?_
        rintro e w2 ⟨rfl, b2⟩
        have D2 := HDA.out.more b2
        have k2 := HKA.out.more b2
        have hz2 := b2.size
        have E2 := EnvAt.part (X := fun _ => False) (Part.of D2.below) (fun _ x => x.elim) E p HE.out
        have t2 := (HK.out.more D2.below).tabs
        have hSl := D2.set.lt
        have hne : wr.heap.size ≠ eb := fun e => by
          have := HDA.out.set.lt
          obtain ⟨⟨es, clock, h1, _⟩, _⟩ := D2.set
          rw [← e] at h1
          unfold Blk at k2
          rw [h1] at k2
          cases k2
        have cA := ns_resolveA T nb E sc N p wr.heap.size c1 c2 eb ⟨sp, nm, va, at'⟩ l w2 t2 E2 HOK.out h0 hN HAI.out.1 (by have := D2.len; omega) ⟨k2, D2.env, D2.box, D2.set, hne⟩
        have HD2 := Lib.hid D2
        have HK2 := Lib.hid k2
        clear D2 k2 E2 t2 b2
        go_wp2_with fail
        refine cA.mono ?_
        rintro e w3 (⟨hsa, rfl, b3⟩ | ⟨spx, k, hsa, hnk, ⟨hh, rfl, b3⟩ | ⟨hh, rfl, kB, hS3, P3⟩⟩)
        · have he := HST.out
          rw [hsa] at he
          simp only at he
          have HS3 := Lib.hid he
          have r3 : w3.cell? ⟨wr.heap.size, 3, none⟩ = some (.int .i64 at') := (HK2.out.more b3).cell 3
          have D3 := Lib.hid (HD2.out.more b3)
          clear he b3 hsa
          go_wp2
          go_quiet (fail)
          go_wp2
          exact bodyPost_ret (v := .tuple #[.slice none 0 0, .int .i64 at', .int .i64 13]) (by simp [results, Tryd.results50, go_sem]) rfl ((D3.out.more (below_drewN _)).fails HS3.out (by decide))
        · have he := HST.out
          change spaceA sc nm = some spx at hsa
          change hasR l k (splitP nm).2.1 = true at hh
          rw [hsa] at he
          simp only at he
          rw [if_pos ((HD2.out.acc spx k _ hnk).1 hh)] at he
          have HS3 := Lib.hid he
          have r3 : w3.cell? ⟨wr.heap.size, 3, none⟩ = some (.int .i64 at') := (HK2.out.more b3).cell 3
          have D3 := Lib.hid (HD2.out.more b3)
          clear he b3 hsa hh
          go_wp2
          go_quiet (fail)
          go_wp2
          exact bodyPost_ret (v := .tuple #[.slice none 0 0, .int .i64 at', .int .i64 10]) (by simp [results, Tryd.results50, go_sem]) rfl ((D3.out.more (below_drewN _)).fails HS3.out (by decide))
        · have he := HST.out
          change spaceA sc nm = some spx at hsa
          change hasR l k (splitP nm).2.1 = false at hh
          change Blk w3 wr.heap.size #[.string spx, .string (splitP nm).2.1, .string va, .int .i64 at'] 43 at kB
          change RSet w3 eb ((k, (splitP nm).2.1) :: l) at hS3
          rw [hsa] at he
          simp only at he
          rw [if_neg (fun h => by rw [(HD2.out.acc spx k _ hnk).2 h] at hh; cases hh)] at he
          obtain ⟨loc, hloc⟩ : ∃ loc, (splitP nm).2.1 = loc := ⟨_, rfl⟩
          rw [hloc] at he kB hS3 hh
          have hD2 := HD2.out
          have hz3 := P3.size
          have hmap : ∀ g cs T, Blk w2 g cs T → g ≠ eb := fun g cs T h e => by
            obtain ⟨⟨es, clock, h1, _⟩, _⟩ := hD2.set
            rw [e] at h
            unfold Blk at h
            rw [h1] at h
            cases h
          have hrow3 : w3.ownsRow w.heap.size 43 4 u8 acc.length (attrsCells acc) := rowSame hD2.row (fun g hg => P3.block g (row_kind hD2.row g hg).2.1 (fun e => by
            rcases e with e | e
            · have := HGR.out g hg; omega
            · obtain ⟨_, _, cs, fz, h1⟩ := row_kind hD2.row g hg
              obtain ⟨⟨es, clock, h2, _⟩, _⟩ := hD2.set
              rw [← e, h1] at h2
              cases h2))
          have hc1 : Blk w3 c1 #[.pointer p] 60 := P3.blk hD2.env (fun e => by rcases e with e | e; omega; exact hmap _ _ _ hD2.env e)
          have hc2 : Blk w3 c2 #[.map (some eb)] 150 := P3.blk hD2.box (fun e => by rcases e with e | e; omega; exact hmap _ _ _ hD2.box e)
          have B3 : Below w.heap.size w w3 := P3.below hD2.below (fun b hb => by have := hD2.lo3; omega) (by omega)
          have s0 := kB.cell 0
          have s1 := kB.cell 1
          have s2 := kB.cell 2
          have s3 := kB.cell 3
          have hac : acc.length ≤ i := hD2.alen
          have HC1 := Lib.hid hc1
          have HC2 := Lib.hid hc2
          have HB3 := Lib.hid B3
          have HS3 := Lib.hid hS3
          have HE3 := Lib.hid he
          have HNK := Lib.hid hnk
          clear he hsa hh kB hS3 P3 hmap hc1 hc2 B3 hnk hD2
          go_wp2_with (at_builtin; refine wpList_append_own _ rfl _ _ 26 rfl w.heap.size 43 i0 (.agg #[.string ⟨#[]⟩, .string ⟨#[]⟩, .string ⟨#[]⟩, .int .i64 0]) 4 56 Tryd.underlying26 hi0 hi1 hi3 hi4 rfl (by decide) u8 acc.length (attrsCells acc) rfl (hrow3.alloc _) ⟨w3.heap.size, 0, none⟩ 1 1 (attrCells ⟨spx, loc, va, at'⟩) rfl rfl (attr_new w3 _ ⟨spx, loc, va, at'⟩) (attr_one _) (by unfold maxLen; omega) (by omega) (by simp; omega) ?_)
          intro v' w5 hown5 hgr5 _
          obtain ⟨A', c', rfl⟩ := own_form hown5
          have hnx : AL N sc al c1 c2 eb p w w5 (i + 1) (.slice A' (acc.length + 1) c') (acc ++ [⟨spx, loc, va, at'⟩]) ((k, loc) :: l) := by
            have hD2 := HD2.out
            have hkind := row_kind hrow3
            have PA : Part (fun b => u8.ownBlock = some b) w3 w5 := ((Part.refl _ w3).alloc _).grown hgr5 (fun b hb => .inl hb)
            refine ⟨by have := hD2.len; simp; omega, by simp; omega, hD2.at'.trans HE3.out, ?_, PA.below HB3.out (fun b hb => (hkind b hb).1) (by omega), PA.blk HC1.out (fun e => ?_), PA.blk HC2.out (fun e => ?_), HS3.out.same (PA.block eb HS3.out.lt (fun e => ?_)), RAcc.push hD2.acc HNK.out, hD2.lo1, hD2.lo2, hD2.lo3⟩
            · rw [List.length_append, List.length_singleton, attrsCells_app, show attrsCells [(⟨spx, loc, va, at'⟩ : AttrD)] = attrCells ⟨spx, loc, va, at'⟩ by simp [attrsCells]]
              exact hown5
            · obtain ⟨_, _, cs, fz, h1⟩ := hkind c1 e
              have h2 := HC1.out
              unfold Blk at h2
              rw [h1] at h2
              injection h2 with h2
              injection h2 with _ h3 _
              exact absurd h3 (by decide)
            · obtain ⟨_, _, cs, fz, h1⟩ := hkind c2 e
              have h2 := HC2.out
              unfold Blk at h2
              rw [h1] at h2
              injection h2 with h2
              injection h2 with _ h3 _
              exact absurd h3 (by decide)
            · obtain ⟨_, _, cs, fz, h1⟩ := hkind eb e
              obtain ⟨⟨es, clock, h2, _⟩, _⟩ := HS3.out
              rw [h1] at h2
              cases h2
          have HNX := Lib.hid hnx
          clear hnx hown5 hgr5 hrow3
          go_wp2
          go_roundw
          case rel => exact ⟨i + 1, acc ++ [⟨spx, loc, va, at'⟩], _, by omega, by go_num, by simpa using HNX.out⟩
          case measure => simp [intOf]; omega
    · obtain rfl : i = al.length := by omega
      have HD := Lib.hid hD
      obtain ⟨pv, cv, rfl⟩ := own_form hD.row
      clear hD
      go_wp2
      refine bodyPost_ret (v := .tuple #[.slice pv acc.length cv, .int .i64 0, .int .i64 0]) (by simp [results, Tryd.results50, go_sem]) rfl ?_
      have hD := HD.out
      have he := hD.at'
      rw [List.drop_length, attrsP] at he
      exact ⟨hD.below, .inr ⟨by rw [he], by rw [he]; exact ⟨_, _, rfl, hD.row⟩⟩⟩
end Go.Proofs.YtoehcholbcchcaaDoor
end
