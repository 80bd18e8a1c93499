/- Packed from the texts NsJ NsL. -/
import Derived.Test.YtoehcholbcchcaaDoorUkG
import Derived.Deep.QuietTactic
import Derived.BigQuiet
section
namespace Go.Proofs.YtoehcholbcchcaaDoor
open Go.RowKit Go.Maps
structure ARow (w : World) (lo nb : Nat) (va : Value) (al : List AttrD) : Prop where
  row : w.ownsRow lo 43 4 va al.length (attrsCells al)
  out : ∀ g, va.ownBlock = some g → g ≠ nb
theorem ARow.part {w w' : World} {lo nb : Nat} {va : Value} {al : List AttrD} {X : Nat → Prop} (h : ARow w lo nb va al) (hp : Part X w w') (hx : ∀ k, X k → k = nb) : ARow w' lo nb va al :=
  ⟨rowSame h.row (fun g hg => hp.block g (row_kind h.row g hg).2.1 (fun x => h.out g hg (hx g x))), h.out⟩
def AtOk (al : List AttrD) : Prop := ∀ x ∈ al, x.nm.size ≤ 1000000 ∧ x.va.size ≤ maxLen
theorem decls_step (sc : Sc) (al : List AttrD) (i : Nat) (h : i < al.length) : declsP sc (al.drop i) = if (splitP al[i].nm).2.2 = false then (sc, al[i].at', 13) else
    match declP al[i].nm with
    | none => declsP sc (al.drop (i + 1))
    | some d => if badDecl d al[i].va then (sc, al[i].at', 13) else declsP ((d, al[i].va) :: sc) (al.drop (i + 1)) := by
  rw [List.drop_eq_getElem_cons h, declsP]
  rfl
theorem decl_size {nm d : ByteArray} (h : declP nm = some d) : d.size ≤ nm.size := by
  have hs := split_size nm
  unfold declP at h
  split at h
  · injection h with h
    rw [← h]
    exact hs.2
  · split at h
    · injection h with h
      rw [← h]
      exact Nat.zero_le _
    · cases h
structure DR (B T rb nb : Nat) (N : List ByteArray) (al : List AttrD) (va : Value) (w wr : World) (i : Nat) (f : Fr) : Prop where
  len : f.length ≤ i
  at' : declsP [] al = declsP (frS f) (al.drop i)
  nums : ∃ N', NumTo T rb nb N i N' wr ∧ ∀ x ∈ f, numF N' x.2.1 = some x.2.2
  xml : ∀ x ∈ f, x.1 ≠ xmlB
  map : FrMap wr w.heap.size f
  part : Part (fun k => k = nb) w wr
  tabs : NsK B wr
  row : ARow wr 0 nb va al
  old : ∀ g, va.ownBlock = some g → g < w.heap.size
theorem DR.new {B T rb nb : Nat} {N : List ByteArray} {al : List AttrD} {va : Value} {w : World} (hN : Nums T rb nb N w) (hK : NsK B w) (hR : ARow w 0 nb va al) : DR B T rb nb N al va w (w.alloc (.map #[] 0)) 0 [] := by
  have bA : Below w.heap.size w (w.alloc (.map #[] 0)) := (Below.refl _ _).alloc (Nat.le_refl _) _
  exact ⟨Nat.le_refl _, rfl, ⟨N, NumTo.refl (hN.below bA) 0, (fun x hx => (by cases hx))⟩, (fun x hx => (by cases hx)), World.ownsMap_made w _ _ _, Part.of bA, hK.more bA, hR.part (X := fun _ => False) (Part.of bA) (fun _ x => x.elim), fun g hg => (row_kind hR.row g hg).2.1⟩
section
variable {B T rb nb : Nat} {N : List ByteArray} {al : List AttrD} {va : Value} {w wr wx : World} {i : Nat} {f : Fr}
theorem DR.below (h : DR B T rb nb N al va w wr i f) (hb : Below wr.heap.size wr wx) : DR B T rb nb N al va w wx i f := by
  obtain ⟨N', h1, h2⟩ := h.nums
  exact ⟨h.len, h.at', ⟨N', h1.part (X := fun _ => False) (Part.of hb) (fun _ x => x.elim), h2⟩, h.xml, h.map.same (hb.block _ h.map.lt), h.part.more hb, h.tabs.more hb, h.row.part (X := fun _ => False) (Part.of hb) (fun _ x => x.elim), h.old⟩
theorem DR.skip (h : DR B T rb nb N al va w wr i f) (hd : declsP (frS f) (al.drop i) = declsP (frS f) (al.drop (i + 1))) : DR B T rb nb N al va w wr (i + 1) f := by
  obtain ⟨N', h1, h2⟩ := h.nums
  exact ⟨by have := h.len; omega, h.at'.trans hd, ⟨N', h1.mono (Nat.le_succ i), h2⟩, h.xml, h.map, h.part, h.tabs, h.row, h.old⟩
theorem DR.push (h : DR B T rb nb N al va w wr i f) {w4 w5 : World} {N1 N2 : List ByteArray} {d x : ByteArray} {k : Nat} (hBn : B ≤ nb) (hnb : nb < w.heap.size) (hrb : rb < w.heap.size) (hN1 : NumTo T rb nb N i N1 wr) (hf : ∀ y ∈ f, numF N1 y.2.1 = some y.2.2) (hp : Part (fun k => k = nb) wr w4) (hN2 : NumTo T rb nb N1 1 N2 w4) (hk : numF N2 x = some k)
    (hm : w5.ownsMap Tryd.prog 9 nsElem w.heap.size (f.length + 1) ((frD f).put (.string d.data.toList) (nsLit (x, k)))) (hg : w4.grownBy w5 (some w.heap.size)) (hd : declsP (frS f) (al.drop i) = declsP ((d, x) :: frS f) (al.drop (i + 1))) (hx : d ≠ xmlB) : DR B T rb nb N al va w w5 (i + 1) ((d, x, k) :: f) := by
  have P5 : Part (fun b => b = w.heap.size) w4 w5 := (Part.refl _ w4).grown hg (fun b hb => .inl (Option.some.inj hb).symm)
  have hNw : Nums T rb nb N2 w5 := ⟨hN2.1.low, hN2.1.lown, hN2.1.ne, P5.blk hN2.1.blk (by omega), hN2.1.map.same (P5.block nb hN2.1.map.lt (by omega)), hN2.1.nodup⟩
  refine ⟨by have := h.len; simp; omega, h.at'.trans hd, ⟨N2, ⟨hNw, hN1.2.1.trans hN2.2.1, by have := hN1.2.2; have := hN2.2.2; omega⟩, fun y hy => ?_⟩, fun y hy => ?_, hm, (h.part.trans hp (fun _ _ e => e)).grown hg (fun b hb => .inr (by have := Option.some.inj hb; omega)), ?_, ⟨rowSame (h.row.part hp (fun _ e => e)).row (fun g hg => P5.block g (row_kind (h.row.part hp (fun _ e => e)).row g hg).2.1 (fun e => by have := h.old g hg; omega)), h.row.out⟩, h.old⟩
  · rcases List.mem_cons.1 hy with rfl | hy
    · exact hk
    · exact hN2.2.1 _ _ (hf y hy)
  · rcases List.mem_cons.1 hy with rfl | hy
    · exact hx
    · exact h.xml y hy
  · exact (h.tabs.part hp (fun b e => by omega)).part P5 (fun b e => by omega)
end
def DeclR (B T rb nb : Nat) (N : List ByteArray) (al : List AttrD) (w : World) (e : Ending) (w' : World) : Prop :=
  Part (fun k => k = nb) w w' ∧ NsK B w' ∧ ∃ N', NumTo T rb nb N al.length N' w' ∧
  (((declsP [] al).2.2 ≠ 0 ∧ e = .returned (.tuple #[.map none, .int .i64 (declsP [] al).2.1, .int .i64 (declsP [] al).2.2])) ∨
   ((declsP [] al).2.2 = 0 ∧ ∃ b f, e = .returned (.tuple #[.map (some b), .int .i64 0, .int .i64 0]) ∧ w.heap.size ≤ b ∧ FrMap w' b f ∧ f.length ≤ al.length ∧ (declsP [] al).1 = frS f ∧ (∀ x ∈ f, x.1 ≠ xmlB) ∧ ∀ x ∈ f, numF N' x.2.1 = some x.2.2))
theorem DR.fails {B T rb nb : Nat} {N : List ByteArray} {al : List AttrD} {va : Value} {w wr : World} {i : Nat} {f : Fr} {a : Int} (h : DR B T rb nb N al va w wr i f) (hi : i ≤ al.length) (hd : declsP (frS f) (al.drop i) = (frS f, a, 13)) : DeclR B T rb nb N al w (.returned (.tuple #[.map none, .int .i64 a, .int .i64 13])) wr := by
  obtain ⟨N', h1, h2⟩ := h.nums
  have he := h.at'.trans hd
  exact ⟨h.part, h.tabs, N', h1.mono hi, .inl ⟨by rw [he]; show (13 : Int) ≠ 0; decide, by rw [he]⟩⟩
set_option maxRecDepth 100000 in
set_option maxHeartbeats 8000000 in
theorem ns_declarations (B T rb nb : Nat) (N : List ByteArray) (pa : Option Addr) (ca : Nat) (al : List AttrD) (w : World) (hK : NsK B w) (hBn : B ≤ nb) (hN : Nums T rb nb N w) (hR : ARow w 0 nb (.slice pa al.length ca) al) (hA : AtOk al) (hl : N.length + al.length ≤ 1000000000) :
    Calls Tryd.prog 52 #[.pointer (some ⟨rb, 0, none⟩), .slice pa al.length ca] w fun e w' => DeclR B T rb nb N al w e w' := by
  have hmm := @run_makeMap Tryd.prog
  have hnb := hN.map.lt
  have hrb := hN.blk.lt
  have H0 := Lib.hid (DR.new hN hK hR)
  have HA := Lib.hid hA
  clear hN hK hR hA
  go_enter Tryd.func52, Tryd.ntmps52
  go_wp2
  go_loopw [18] (fun q wr => ∃ (i : Nat) (f : Fr), i ≤ al.length ∧ q = .int .i64 i ∧ DR B T rb nb N al (.slice pa al.length ca) w wr i f) (fun q _ => al.length - (intOf q).toNat)
  case atStart => exact ⟨0, [], Nat.zero_le _, rfl, H0.out⟩
  case round =>
    obtain ⟨i, f, hi, rfl, hD⟩ := hrel
    by_cases hlt : i < al.length
    · have hiz : (i : Int) < (al.length : Int) := by omega
      obtain ⟨a, rfl, a0, a1, a2, a3⟩ := (attrs_of_row hD.row.row) i hlt
      have hst := decls_step (frS f) al i hlt
      have hAi := HA.out al[i] (List.getElem_mem _)
      obtain ⟨x, hx⟩ : ∃ x, al[i] = x := ⟨_, rfl⟩
      rw [hx] at a0 a1 a2 a3 hst hAi
      obtain ⟨cc, hcc⟩ : ∃ c, a.add (i * 4) = c := ⟨_, rfl⟩
      rw [hcc] at a0 a1 a2 a3
      simp only [Addr.add, Nat.reduceEqDiff, ↓reduceIte] at a1 a2 a3
      obtain ⟨sp, nm, va, at'⟩ := x
      simp only at a0 a1 a2 a3 hst hAi
      have bA : Below wr.heap.size wr (wr.alloc (.cells #[.string sp, .string nm, .string va, .int .i64 at'] 43)) := (Below.refl _ _).alloc (Nat.le_refl _) _
      have kA : Blk (wr.alloc (.cells #[.string sp, .string nm, .string va, .int .i64 at'] 43)) wr.heap.size #[.string sp, .string nm, .string va, .int .i64 at'] 43 := Blk.new wr _ _
      have DA := hD.below bA
      have cS := ns_Split nm _ hAi.1 DA.tabs.tabs
      have cD : ∀ wx, NsT wx → _ := fun wx h => ns_declaration sp nm va at' wx hAi.1 h
      have HDA := Lib.hid DA
      have HKA := Lib.hid kA
      have HAI := Lib.hid hAi
      clear DA kA bA hD hAi hx
      rcases hok : (splitP nm).2.2 with _ | _
      · rw [hok] at cS
        rw [hok, if_pos rfl] at hst
        have HST := Lib.hid hst
        clear hst cD hok
        go_wp2_with fail
        refine cS.mono ?_
        rintro e w2 ⟨rfl, b2⟩
        have r3 : w2.cell? ⟨wr.heap.size, 3, none⟩ = some (.int .i64 at') := (HKA.out.more b2).cell 3
        have D2 := Lib.hid (HDA.out.below b2)
        clear b2
        go_wp2
        go_quiet (fail)
        go_wp2
        exact bodyPost_ret (v := .tuple #[.map none, .int .i64 at', .int .i64 13]) (by simp [results, Tryd.results52, go_sem]) rfl ((D2.out.below (below_drewN _)).fails hi HST.out)
      · rw [hok] at cS
        rw [hok, if_neg (by decide)] at hst
        clear hok
        cases hd : declP nm with
        | none =>
          rw [hd] at hst cD
          simp only at hst
          have HST := Lib.hid hst
          simp only [Option.getD, Option.isSome] at cD
          clear hst hd
          go_wp2_with fail
          refine cS.mono ?_
          rintro e w2 ⟨rfl, b2⟩
          have k2 := HKA.out.more b2
          have D2 := HDA.out.below b2
          have r0 : w2.cell? ⟨wr.heap.size, 0, none⟩ = some (.string sp) := k2.cell 0
          have r1 : w2.cell? ⟨wr.heap.size, 1, none⟩ = some (.string nm) := k2.cell 1
          have r2 : w2.cell? ⟨wr.heap.size, 2, none⟩ = some (.string va) := k2.cell 2
          have r3 : w2.cell? ⟨wr.heap.size, 3, none⟩ = some (.int .i64 at') := k2.cell 3
          have c2 := cD _ D2.tabs.tabs
          have HD2 := Lib.hid D2
          have HK2 := Lib.hid k2
          clear D2 k2 b2
          go_wp2_with fail
          refine c2.mono ?_
          rintro e w3 ⟨rfl, b3⟩
          have k3 := HK2.out.more b3
          have D3 := HD2.out.below b3
          have q2 : w3.cell? ⟨wr.heap.size, 2, none⟩ = some (.string va) := k3.cell 2
          have q3 : w3.cell? ⟨wr.heap.size, 3, none⟩ = some (.int .i64 at') := k3.cell 3
          have HD3 := Lib.hid D3
          clear r0 r1 r2 r3 k3 b3
          have HS3 := Lib.hid (D3.skip HST.out)
          clear D3
          go_wp2
          go_roundw
          case rel => exact ⟨i + 1, f, by omega, by go_num, HS3.out⟩
          case measure => simp [intOf]; omega
        | some d =>
          rw [hd] at hst cD
          simp only at hst
          simp only [Option.getD, Option.isSome] at cD
          have hds : d.size ≤ maxLen := by have := decl_size hd; have := HAI.out.1; unfold maxLen; omega
          have hkey := Go.WideMaps.keyOf_string_mk (P := Tryd.prog) Tryd.underlying9 hds
          clear hd
          by_cases h1 : d = xmlB
          · rw [if_pos (.inl h1)] at hst
            have HST := Lib.hid hst
            subst h1
            unfold xmlB at cD
            clear hst
            go_wp2_with fail
            refine cS.mono ?_
            rintro e w2 ⟨rfl, b2⟩
            have k2 := HKA.out.more b2
            have D2 := HDA.out.below b2
            have r0 : w2.cell? ⟨wr.heap.size, 0, none⟩ = some (.string sp) := k2.cell 0
            have r1 : w2.cell? ⟨wr.heap.size, 1, none⟩ = some (.string nm) := k2.cell 1
            have r2 : w2.cell? ⟨wr.heap.size, 2, none⟩ = some (.string va) := k2.cell 2
            have r3 : w2.cell? ⟨wr.heap.size, 3, none⟩ = some (.int .i64 at') := k2.cell 3
            have c2 := cD _ D2.tabs.tabs
            have HD2 := Lib.hid D2
            have HK2 := Lib.hid k2
            clear D2 k2 b2
            go_wp2_with fail
            refine c2.mono ?_
            rintro e w3 ⟨rfl, b3⟩
            have k3 := HK2.out.more b3
            have D3 := HD2.out.below b3
            have q2 : w3.cell? ⟨wr.heap.size, 2, none⟩ = some (.string va) := k3.cell 2
            have q3 : w3.cell? ⟨wr.heap.size, 3, none⟩ = some (.int .i64 at') := k3.cell 3
            have HD3 := Lib.hid D3
            clear r0 r1 r2 r3 k3 b3
            clear D3
            go_wp2
            go_quiet (fail)
            go_wp2
            exact bodyPost_ret (v := .tuple #[.map none, .int .i64 at', .int .i64 13]) (by simp [results, Tryd.results52, go_sem]) rfl ((HD3.out.below (below_drewN _)).fails hi HST.out)
          · by_cases h2 : d = xmlnsB
            · rw [if_pos (.inr (.inl h2))] at hst
              have HST := Lib.hid hst
              subst h2
              unfold xmlnsB at cD
              clear hst h1
              go_wp2_with fail
              refine cS.mono ?_
              rintro e w2 ⟨rfl, b2⟩
              have k2 := HKA.out.more b2
              have D2 := HDA.out.below b2
              have r0 : w2.cell? ⟨wr.heap.size, 0, none⟩ = some (.string sp) := k2.cell 0
              have r1 : w2.cell? ⟨wr.heap.size, 1, none⟩ = some (.string nm) := k2.cell 1
              have r2 : w2.cell? ⟨wr.heap.size, 2, none⟩ = some (.string va) := k2.cell 2
              have r3 : w2.cell? ⟨wr.heap.size, 3, none⟩ = some (.int .i64 at') := k2.cell 3
              have c2 := cD _ D2.tabs.tabs
              have HD2 := Lib.hid D2
              have HK2 := Lib.hid k2
              clear D2 k2 b2
              go_wp2_with fail
              refine c2.mono ?_
              rintro e w3 ⟨rfl, b3⟩
              have k3 := HK2.out.more b3
              have D3 := HD2.out.below b3
              have q2 : w3.cell? ⟨wr.heap.size, 2, none⟩ = some (.string va) := k3.cell 2
              have q3 : w3.cell? ⟨wr.heap.size, 3, none⟩ = some (.int .i64 at') := k3.cell 3
              have HD3 := Lib.hid D3
              clear r0 r1 r2 r3 k3 b3
              clear D3
              go_wp2
              go_quiet (fail)
              go_wp2
              exact bodyPost_ret (v := .tuple #[.map none, .int .i64 at', .int .i64 13]) (by simp [results, Tryd.results52, go_sem]) rfl ((HD3.out.below (below_drewN _)).fails hi HST.out)
            · have e1 : (d.toList == [120, 109, 108]) = false := cne h1 rfl
              have e2 : (d.toList == [120, 109, 108, 110, 115]) = false := cne h2 rfl
              by_cases h3 : d = noB
              · rw [if_neg (fun h => h.elim h1 (fun h => h.elim h2 (fun h => h.1 h3)))] at hst
                have HST := Lib.hid hst
                have H1 := Lib.hid h1
                subst h3
                unfold noB at cD hkey
                clear hst h1 h2 e1 e2
                go_wp2_with fail
                refine cS.mono ?_
                rintro e w2 ⟨rfl, b2⟩
                have k2 := HKA.out.more b2
                have D2 := HDA.out.below b2
                have r0 : w2.cell? ⟨wr.heap.size, 0, none⟩ = some (.string sp) := k2.cell 0
                have r1 : w2.cell? ⟨wr.heap.size, 1, none⟩ = some (.string nm) := k2.cell 1
                have r2 : w2.cell? ⟨wr.heap.size, 2, none⟩ = some (.string va) := k2.cell 2
                have r3 : w2.cell? ⟨wr.heap.size, 3, none⟩ = some (.int .i64 at') := k2.cell 3
                have c2 := cD _ D2.tabs.tabs
                have HD2 := Lib.hid D2
                have HK2 := Lib.hid k2
                clear D2 k2 b2
                go_wp2_with fail
                refine c2.mono ?_
                rintro e w3 ⟨rfl, b3⟩
                have k3 := HK2.out.more b3
                have D3 := HD2.out.below b3
                have q2 : w3.cell? ⟨wr.heap.size, 2, none⟩ = some (.string va) := k3.cell 2
                have q3 : w3.cell? ⟨wr.heap.size, 3, none⟩ = some (.int .i64 at') := k3.cell 3
                have HD3 := Lib.hid D3
                clear r0 r1 r2 r3 k3 b3
                obtain ⟨N1, hN1, hf1⟩ := D3.nums
                have hN1l := hN1.2.2
                have cN := ns_namespace T rb nb N1 va w3 hN1.1 (by omega) HAI.out.2
                have HF1 := Lib.hid hf1
                have HN1 := Lib.hid hN1
                clear D3 hf1 hN1
                go_wp2_with fail
                refine cN.mono ?_
                rintro e w4 ⟨k, N2, rfl, hN2, hk2, P4⟩
                have hm4 : FrMap w4 w.heap.size f := HD3.out.map.same (P4.block _ HD3.out.map.lt (by omega))
                unfold FrMap at hm4
                have HN2 := Lib.hid hN2
                have HK4 := Lib.hid hk2
                have HP4 := Lib.hid P4
                have hfl := HD3.out.len
                clear hN2 hk2 P4
                go_wp2_with (first | (at_mapUpdate; refine wpList_mapUpdate_own _ rfl _ _ _ 103 rfl 9 98 nskey Tryd.underlying103 nsElem w.heap.size f.length (frD f) rfl hm4 (by unfold maxLen; omega) _ _ _ rfl rfl hkey _ [] (nsElem_mk va (k : Int)) ?_; intro w5 hm5 hg5; have HD5 := Lib.hid (HD3.out.push hBn hnb hrb HN1.out HF1.out HP4.out HN2.out HK4.out hm5 hg5 HST.out H1.out)))
                go_roundw
                case rel => exact ⟨i + 1, _, by omega, by go_num, HD5.out⟩
                case measure => simp [intOf]; omega
              · have e3 : d.toList.isEmpty = false := by cases hl : d.toList with | nil => exact absurd (kstr_ext (by rw [← blist, hl]; rfl)) h3 | cons x r => rfl
                by_cases h4 : va = noB
                · rw [if_pos (.inr (.inr ⟨h3, h4⟩))] at hst
                  have HST := Lib.hid hst
                  have e4 : (va.toList == []) = true := by rw [h4, blist]; rfl
                  have e5 : va.toList.isEmpty = true := by rw [h4, blist]; rfl
                  clear hst h1 h2 h3 h4
                  go_wp2_with fail
                  refine cS.mono ?_
                  rintro e w2 ⟨rfl, b2⟩
                  have k2 := HKA.out.more b2
                  have D2 := HDA.out.below b2
                  have r0 : w2.cell? ⟨wr.heap.size, 0, none⟩ = some (.string sp) := k2.cell 0
                  have r1 : w2.cell? ⟨wr.heap.size, 1, none⟩ = some (.string nm) := k2.cell 1
                  have r2 : w2.cell? ⟨wr.heap.size, 2, none⟩ = some (.string va) := k2.cell 2
                  have r3 : w2.cell? ⟨wr.heap.size, 3, none⟩ = some (.int .i64 at') := k2.cell 3
                  have c2 := cD _ D2.tabs.tabs
                  have HD2 := Lib.hid D2
                  have HK2 := Lib.hid k2
                  clear D2 k2 b2
                  go_wp2_with fail
                  refine c2.mono ?_
                  rintro e w3 ⟨rfl, b3⟩
                  have k3 := HK2.out.more b3
                  have D3 := HD2.out.below b3
                  have q2 : w3.cell? ⟨wr.heap.size, 2, none⟩ = some (.string va) := k3.cell 2
                  have q3 : w3.cell? ⟨wr.heap.size, 3, none⟩ = some (.int .i64 at') := k3.cell 3
                  have HD3 := Lib.hid D3
                  clear r0 r1 r2 r3 k3 b3
                  clear D3
                  go_wp2
                  go_quiet (fail)
                  go_wp2
                  exact bodyPost_ret (v := .tuple #[.map none, .int .i64 at', .int .i64 13]) (by simp [results, Tryd.results52, go_sem]) rfl ((HD3.out.below (below_drewN _)).fails hi HST.out)
                · have e4 : (va.toList == []) = false := cne h4 rfl
                  have e5 : va.toList.isEmpty = false := by cases hl : va.toList with | nil => exact absurd (kstr_ext (by rw [← blist, hl]; rfl)) h4 | cons x r => rfl
                  rw [if_neg (fun h => h.elim h1 (fun h => h.elim h2 (fun h => h4 h.2)))] at hst
                  have HST := Lib.hid hst
                  have H1 := Lib.hid h1
                  clear hst h1 h2 h3 h4
                  go_wp2_with fail
                  refine cS.mono ?_
                  rintro e w2 ⟨rfl, b2⟩
                  have k2 := HKA.out.more b2
                  have D2 := HDA.out.below b2
                  have r0 : w2.cell? ⟨wr.heap.size, 0, none⟩ = some (.string sp) := k2.cell 0
                  have r1 : w2.cell? ⟨wr.heap.size, 1, none⟩ = some (.string nm) := k2.cell 1
                  have r2 : w2.cell? ⟨wr.heap.size, 2, none⟩ = some (.string va) := k2.cell 2
                  have r3 : w2.cell? ⟨wr.heap.size, 3, none⟩ = some (.int .i64 at') := k2.cell 3
                  have c2 := cD _ D2.tabs.tabs
                  have HD2 := Lib.hid D2
                  have HK2 := Lib.hid k2
                  clear D2 k2 b2
                  go_wp2_with fail
                  refine c2.mono ?_
                  rintro e w3 ⟨rfl, b3⟩
                  have k3 := HK2.out.more b3
                  have D3 := HD2.out.below b3
                  have q2 : w3.cell? ⟨wr.heap.size, 2, none⟩ = some (.string va) := k3.cell 2
                  have q3 : w3.cell? ⟨wr.heap.size, 3, none⟩ = some (.int .i64 at') := k3.cell 3
                  have HD3 := Lib.hid D3
                  clear r0 r1 r2 r3 k3 b3
                  obtain ⟨N1, hN1, hf1⟩ := D3.nums
                  have hN1l := hN1.2.2
                  have cN := ns_namespace T rb nb N1 va w3 hN1.1 (by omega) HAI.out.2
                  have HF1 := Lib.hid hf1
                  have HN1 := Lib.hid hN1
                  clear D3 hf1 hN1
                  go_wp2_with fail
                  refine cN.mono ?_
                  rintro e w4 ⟨k, N2, rfl, hN2, hk2, P4⟩
                  have hm4 : FrMap w4 w.heap.size f := HD3.out.map.same (P4.block _ HD3.out.map.lt (by omega))
                  unfold FrMap at hm4
                  have HN2 := Lib.hid hN2
                  have HK4 := Lib.hid hk2
                  have HP4 := Lib.hid P4
                  have hfl := HD3.out.len
                  clear hN2 hk2 P4
                  go_wp2_with (first | (at_mapUpdate; refine wpList_mapUpdate_own _ rfl _ _ _ 103 rfl 9 98 nskey Tryd.underlying103 nsElem w.heap.size f.length (frD f) rfl hm4 (by unfold maxLen; omega) _ _ _ rfl rfl hkey _ [] (nsElem_mk va (k : Int)) ?_; intro w5 hm5 hg5; have HD5 := Lib.hid (HD3.out.push hBn hnb hrb HN1.out HF1.out HP4.out HN2.out HK4.out hm5 hg5 HST.out H1.out)))
                  go_roundw
                  case rel => exact ⟨i + 1, _, by omega, by go_num, HD5.out⟩
                  case measure => simp [intOf]; omega
    · obtain rfl : i = al.length := by omega
      have HD := Lib.hid hD
      clear hD
      go_wp2
      refine bodyPost_ret (v := .tuple #[.map (some w.heap.size), .int .i64 0, .int .i64 0]) (by simp [results, Tryd.results52, go_sem]) rfl ?_
      have hD := HD.out
      obtain ⟨N1, hN1, hf1⟩ := hD.nums
      have he := hD.at'
      rw [List.drop_length, declsP] at he
      exact ⟨hD.part, hD.tabs, N1, hN1, .inr ⟨by rw [he], w.heap.size, f, rfl, Nat.le_refl _, hD.map, hD.len, by rw [he], hD.xml, hf1⟩⟩
end Go.Proofs.YtoehcholbcchcaaDoor
end
section
namespace Go.Proofs.YtoehcholbcchcaaDoor
open Go.RowKit Go.Maps
def FindR (B T rb nb : Nat) (N : List ByteArray) (sc : Sc) (al : List AttrD) (w : World) (e : Ending) (w' : World) : Prop :=
  Part (fun k => k = nb) w w' ∧ NsK B w' ∧ ∃ N', NumTo T rb nb N al.length N' w' ∧
  (((declsP sc al).2.2 ≠ 0 ∧ e = .returned (.tuple #[.pointer none, .int .i64 (declsP sc al).2.1, .int .i64 (declsP sc al).2.2])) ∨
   ((declsP sc al).2.2 = 0 ∧ ∃ p E, e = .returned (.tuple #[.pointer p, .int .i64 0, .int .i64 0]) ∧ EnvAt T nb w' E p ∧ EnvOk N' E (declsP sc al).1))
set_option maxRecDepth 100000 in
set_option maxHeartbeats 8000000 in
theorem ns_findIn (B T rb nb : Nat) (N : List ByteArray) (E : List Fr) (sc : Sc) (p : Option Addr) (c1 c2 : Nat) (pa : Option Addr) (ca : Nat) (al : List AttrD) (w : World) (hK : NsK B w) (hBn : B ≤ nb) (hTw : T ≤ w.heap.size) (hN : Nums T rb nb N w) (hR : ARow w 0 nb (.slice pa al.length ca) al) (hA : AtOk al) (hl : N.length + al.length ≤ 1000000000)
    (k1 : Blk w c1 #[.pointer (some ⟨rb, 0, none⟩)] 52) (k2 : Blk w c2 #[.pointer p] 60) (h2 : c2 ≠ nb) (hE : EnvAt T nb w E p) (hok : EnvOk N E sc) :
    Calls Tryd.prog 51 #[.slice pa al.length ca, .pointer (some ⟨c1, 0, none⟩), .pointer (some ⟨c2, 0, none⟩)] w fun e w' => FindR B T rb nb N sc al w e w' := by
  have cD := ns_declarations B T rb nb N pa ca al w hK hBn hN hR hA hl
  have d1 : w.cell? ⟨c1, 0, none⟩ = some (.pointer (some ⟨rb, 0, none⟩)) := k1.cell 0
  have hnb := hN.map.lt
  have hap := declsP_app sc al []
  rw [List.nil_append] at hap
  have HAP := Lib.hid hap
  have HE := Lib.hid hE
  have HOK := Lib.hid hok
  have HK2 := Lib.hid k2
  clear hap hE hok k2 k1 hK hN hR hA
  go_enter Tryd.func51, Tryd.ntmps51
  go_wp2_with fail
  refine cD.mono ?_
  rintro e w2 ⟨P2, K2, N', hN', ⟨her, rfl⟩ | ⟨her, b, f, rfl, hb, hfm, hfl, hde, hfx, hfn⟩⟩
  · have HR : Hid (FindR B T rb nb N sc al w (.returned (.tuple #[.pointer none, .int .i64 (declsP [] al).2.1, .int .i64 (declsP [] al).2.2])) w2) := Lib.hid ⟨P2, K2, N', hN', .inl ⟨by rw [HAP.out]; exact her, by rw [HAP.out]⟩⟩
    have herb : ((declsP [] al).2.2 != 0) = true := by simpa using her
    generalize (declsP [] al).2.2 = er at *
    generalize (declsP [] al).2.1 = at' at *
    clear P2 K2 hN' her
    go_wp2
    exact bodyPost_ret (v := .tuple #[.pointer none, .int .i64 at', .int .i64 er]) (by simp [results, Tryd.results51, go_sem]) rfl HR.out
  · have q2 : w2.cell? ⟨c2, 0, none⟩ = some (.pointer p) := (P2.blk HK2.out h2).cell 0
    have hE2 := EnvAt.part P2 (fun k hk => .inr hk) E p HE.out
    have hok2 := HOK.out.le hN'.2.1
    have hz2 := P2.size
    have hlt := hfm.lt
    cases f with
    | nil =>
      have HR : Hid (FindR B T rb nb N sc al w (.returned (.tuple #[.pointer p, .int .i64 0, .int .i64 0])) w2) := Lib.hid ⟨P2, K2, N', hN', .inr ⟨by rw [HAP.out]; exact her, p, E, rfl, hE2, by rw [HAP.out, hde]; exact hok2⟩⟩
      unfold FrMap at hfm
      have hsz := frD_size0
      clear P2 K2 hN' her hE2 hok2 hde hfx hfn
      go_wp2_with (first | (at_len; refine wpList_len_own _ rfl _ 103 rfl 9 98 Tryd.underlying103 _ b _ _ rfl hfm ?_; rw [hsz]))
      exact bodyPost_ret (v := .tuple #[.pointer p, .int .i64 0, .int .i64 0]) (by simp [results, Tryd.results51, go_sem]) rfl HR.out
    | cons x r =>
      have bA : Below w2.heap.size w2 (w2.alloc (.cells #[.map (some b), .pointer p] 107)) := (Below.refl _ _).alloc (Nat.le_refl _) _
      have HR : Hid (FindR B T rb nb N sc al w (.returned (.tuple #[.pointer (some ⟨w2.heap.size, 0, none⟩), .int .i64 0, .int .i64 0])) (w2.alloc (.cells #[.map (some b), .pointer p] 107))) := by
        refine Lib.hid ⟨P2.more bA, K2.more bA, N', hN'.part (X := fun _ => False) (Part.of bA) (fun _ x => x.elim), .inr ⟨by rw [HAP.out]; exact her, _, (x :: r) :: E, rfl, ?_, by rw [HAP.out, hde]; exact hok2.push _ hfn hfx⟩⟩
        rw [EnvAt]
        exact ⟨w2.heap.size, b, p, rfl, by omega, by omega, by omega, by omega, Blk.new w2 _ _, hfm.same (Below.heap_alloc _ _ _ hlt), EnvAt.part (X := fun _ => False) (Part.of bA) (fun _ x => x.elim) E p hE2⟩
      have hsz : (((Maps.size (frD (x :: r)) : Nat) : Int) == 0) = false := by
        have := frD_size x r
        simp
        omega
      unfold FrMap at hfm
      clear P2 K2 hN' her hE2 hok2 hde hfx hfn bA
      generalize hD : frD (x :: r) = D at hfm hsz
      clear hD
      go_wp2_with (first | (at_len; refine wpList_len_own _ rfl _ 103 rfl 9 98 Tryd.underlying103 _ b _ _ rfl hfm ?_))
      exact bodyPost_ret (v := .tuple #[.pointer (some ⟨w2.heap.size, 0, none⟩), .int .i64 0, .int .i64 0]) (by simp [results, Tryd.results51, go_sem]) rfl HR.out
end Go.Proofs.YtoehcholbcchcaaDoor
end
