/- Packed from the texts TrwB. -/
import Derived.Test.YtppmoeidgefkpaaDoorVRfcW
import Derived.Test.YtppmoeidgefkpaaDoorVTextX
import Derived.Test.YtppmoeidgefkpaaDoorVTrfO
import Derived.Test.YtppmoeidgefkpaaDoorVkJ
import Derived.Test.YtppmoeidgefkpaaDoorCards
import Derived.Test.YtppmoeidgefkpaaDoorTie
import Derived.ProofKit
import Derived.OpenShut
import Derived.SliceStrings
import Derived.SizedLaws
import Derived.Lay
import Derived.LaidOnce
import Derived.SevenTiedAt
section
namespace Go.Proofs.YtppmoeidgefkpaaDoor
open Go.RowKit Go.Lib Go.ChangeShapes Go.WideShapes Go.ChangeAt
open Go.ChangeMaps (open_string shut_string)
theorem ownWB : ownKnob Tryd.prog.godebug = none := by kernel_rfl
theorem laidOutN : laidOutB Tryd.prog = true := by kernel_rfl
section
variable {H : Type} {enc : TypeId × Value → H} {w : World} {base : Nat} {spare : Nat → Bool} {held : Bool}
theorem open_kids {fuel : Nat} {v : Value} {x : DataW H × List MemPlace} (h : DataW.trod enc Tryd.prog w base spare held fuel 23 [v] = some x) (hz : Sz Tryd.prog 23 x.1) : ∃ p c kids, v = .slice p (List.length kids) c ∧ KidsAt w p 0 kids ∧ WFs kids ∧ kids.length ≤ 140737488351232 := by
  obtain ⟨-, -, -, -, -, -, -, -, -, -, -, -, -, -, -, -, hC⟩ := node_fields
  have hu : Tryd.prog.underlying 23 = some (.slice 25) := by kernel_rfl
  rcases DataW.trod_slice hu h with ⟨hv, -⟩ | ⟨a, len, cap, elems, rest, n, -, hv, rfl, hb, hle, hm, he, hE, -, -⟩
  · cases hv
    exact ⟨none, 0, [], rfl, by rw [KidsAt]; trivial, by rw [WFs]; trivial, by simp⟩
  · cases hv
    rw [hC] at hE
    obtain ⟨kids, hk, hkt⟩ := choose_list len (fun i (y : NodeD) => (∃ cs, w.cells? base (a.add (i * 7)) 7 = some cs ∧ NodeIs w y (.agg cs.toArray)) ∧ y.WF) (fun i hi => by
      have h1 := hE i hi
      rw [List.getElem?_eq_getElem (by omega)] at h1
      obtain ⟨cs, hc, ht⟩ := Option.bind_eq_some_iff.1 h1
      obtain ⟨y, hy, hw⟩ := open_node n _ _ ht (Sz.elem hu hz (List.getElem?_eq_getElem (by omega)))
      exact ⟨y, ⟨cs, hc, hy⟩, hw⟩)
    refine ⟨some a, cap, kids, by rw [hk], kids_at (base := base) kids 0 fun i hi => ?_, wfs_all kids fun i hi => (hkt i hi).2, ?_⟩
    · rw [Nat.zero_add]
      exact (hkt i hi).1
    · rw [hk, ← he]
      exact Sz.len hu (by decide +kernel) hz
theorem open_strs {fuel : Nat} {v : Value} {x : DataW H × List MemPlace} (h : DataW.trod enc Tryd.prog w base spare held fuel 35 [v] = some x) : ∃ p c l, v = .slice p (List.length l) c ∧ StrsAt w p l := by
  rcases open_strings (show Tryd.prog.underlying 35 = some (.slice 9) by kernel_rfl) Tryd.underlying9 (by kernel_rfl) h with ⟨hcs, -⟩ | ⟨a, len, cap, ss, hcs, -, hl, -, hz, -, hcell, -⟩
  · cases hcs
    exact ⟨none, 0, [], rfl, fun i hi => absurd hi (Nat.not_lt_zero _)⟩
  · cases hcs
    have hlen : len ≤ ss.length := by rw [hz]; split <;> omega
    refine ⟨some a, cap, ss.take len, by rw [List.length_take, Nat.min_eq_left hlen], fun i hi => ⟨a, rfl, ?_⟩⟩
    have hi' : i < ss.length := by rw [List.length_take] at hi; omega
    rw [hcell i hi', List.getElem_take, List.getD_eq_getElem?_getD, List.getElem?_eq_getElem hi']
    rfl
end
set_option maxRecDepth 100000 in
theorem lifted_XmlwriteBuilds (os : Os) (started : os.Started) (H : Type) (enc : TypeId × Value → H) :
    ReturnsInHanded {} Tryd.checked os 4 .any (fun w args => (Rows.xmlwriteBuildsSpec.pre enc Tryd.prog Tryd.f4 [] false w args ∧ laidMetH Tryd.prog laid1 w) ∧ sizedMet enc Tryd.prog Tryd.f4 (OpenSpec.ofChange Rows.xmlwriteBuildsSpec) false w args)
      (Rows.xmlwriteBuildsSpec.post enc Tryd.prog Tryd.f4 false true false false) := by
  refine handed_sized (C := Tryd.checked) (X := laidMetH Tryd.prog laid1) ownWB started (by kernel_rfl) Tryd.func4 (fun _ _ hh h => h.of_heap hh)
    (ChangeSpec.witness_shaped (enc := enc) (C := Tryd.checked) (os := os) (X := fun w _ => laidMetH Tryd.prog laid1 w) false (World.laidAll Tryd.prog os laid1) #[.string ⟨#[]⟩, .slice none 0 0, .slice none 0 0] 8 (World.laidAll_os _ _ _)
      (World.shaped_of_ZipB (by kernel_rfl) (by kernel_rfl)) (by kernel_rfl) (by kernel_rfl) (by kernel_rfl)
      (by rw [MakeChecks.laidMetH_plain _ _ _ (by kernel_rfl)]; exact laidMet_laidAll _ (by kernel_rfl) (by kernel_rfl))) ?_
  intro W base args ds gs before hval0 hW hsz hsh hL
  have hval : ∀ (j : Nat) t v, Tryd.f4.params[j]? = some t → args[j]? = some v → Value.okWide Tryd.prog W .any base t v := hval0
  have hW' := hW
  obtain ⟨p, q, hA0, hV, rfl, _, _⟩ := hW
  have hA : DataW.TrodAll enc Tryd.prog W 0 (fun _ => true) true Tryd.f4.params.toList args.toList ds p := hA0
  rw [Tryd.params4] at hA hval hsz
  obtain ⟨v0, v1, v2, d0, d1, d2, p0, p1, p2, rfl, rfl, rfl, h0, h1, h2⟩ := trodAll_three hA
  obtain ⟨rfl, rfl⟩ := trodVars_none hV
  obtain ⟨s0, rfl, rfl, rfl, ws0⟩ := open_string Tryd.underlying9 (hval 0 9 v0 rfl rfl) h0
  have r0 : s0.size ≤ 140737488351232 := by
    have h := List.all_eq_true.1 hsz _ (DataW.weights_mem_each (j := 0) (t := 9) rfl rfl s0.data.toList.length (by simp [DataW.weights]))
    have h2 : s0.data.toList.length = s0.size := by simp
    rw [h2] at h
    exact of_decide_eq_true h
  have hk1 := h1
  have hlt1 : ∀ x ∈ p1, x.block < W.heap.size := fun x hx => by simpa using hW'.lt x (by simp [hx])
  have hz1 : Sz Tryd.prog 23 d1 := fun z hz => of_decide_eq_true (List.all_eq_true.1 hsz _ (DataW.weights_mem_each (j := 1) (t := 23) rfl rfl z hz))
  obtain ⟨pk1, ck1, k1, rfl, hK1, hW1, hl1⟩ : ∃ p c kids, v1 = .slice p (List.length kids) c ∧ KidsAt W p 0 kids ∧ WFs kids ∧ kids.length ≤ 140737488351232 := by
    obtain ⟨a, len, cap, rfl⟩ := okWide_slice (show Tryd.prog.underlying 23 = some (.slice 25) by kernel_rfl) (hval 1 23 v1 rfl rfl)
    obtain ⟨fuel, hf⟩ := h1
    exact open_kids hf hz1
  have hk2 := h2
  have hlt2 : ∀ x ∈ p2, x.block < W.heap.size := fun x hx => by simpa using hW'.lt x (by simp [hx])
  obtain ⟨pk2, ck2, s2, rfl, hS2⟩ : ∃ p c l, v2 = .slice p (List.length l) c ∧ StrsAt W p l := by
    obtain ⟨a, len, cap, rfl⟩ := okWide_slice (show Tryd.prog.underlying 35 = some (.slice 9) by kernel_rfl) (hval 2 35 v2 rfl rfl)
    obtain ⟨fuel, hf⟩ := h2
    exact open_strs hf
  simp only [List.append_nil] at hW'
  refine (walk_WrBuilds s0 k1 pk1 ck1 s2 pk2 ck2 W (tabs_of_laid hL) hK1 hW1 hS2 hl1 ).mono fun e W' ⟨he, hb⟩ => ?_
  subst he
  exact ⟨_, rfl, _, _, _, [], _, [], hW', trodAll_mk1 (shut_bool Tryd.underlying4 _), trodAll_mk3 (shut_string Tryd.underlying9 ws0) (Below.trod laidOutN (by kernel_rfl) (of_decide_eq_true (by kernel_rfl)) hk1 hb hlt1) (Below.trod laidOutN (by kernel_rfl) (of_decide_eq_true (by kernel_rfl)) hk2 hb hlt2), rfl, hb.frame _, fun h => by cases h⟩
theorem said_XmlwriteBuilds : Rows.XmlwriteBuildsSaid :=
  OpenClaim.holds_of_wide 4 Tryd.f4 rfl rfl rfl rfl rfl rfl rfl ⟨rfl, rfl, rfl, rfl, rfl⟩ rfl rfl rfl rfl rfl (by kernel_rfl) Tryd.func4 (by kernel_rfl)
    (of_decide_eq_true (by kernel_rfl)) (by unfold Func.isWrapper; first | (rw [if_pos (by decide +kernel)]; kernel_rfl) | (rw [if_neg (by decide +kernel)]; exact ⟨rfl, rfl⟩))
    (fun os started H enc _ => lifted_XmlwriteBuilds os started H enc)
theorem plain_XmlwriteBuilds (f : FuncId) (fn : Func) (hf : Tryd.pinned.checked.prog.funcNamed "feedvault/feedvaultlaw09.XmlwriteBuilds" = some f) (hfn : Tryd.pinned.checked.prog.funcs[f]? = some fn) :
    false = Tryd.pinned.checked.prog.looks [] ∧ ∀ (j : Nat) t, fn.params[j]? = some t → Tryd.pinned.checked.prog.wantsStandIn t = false := by
  obtain rfl : f = 4 := Option.some.inj ((show Tryd.prog.funcNamed "feedvault/feedvaultlaw09.XmlwriteBuilds" = some 4 by kernel_rfl).symm.trans hf) |>.symm
  obtain rfl : fn = Tryd.f4 := (Option.some.inj (Tryd.func4.symm.trans hfn)).symm
  refine ⟨by kernel_rfl, fun j t ht => ?_⟩
  rw [Tryd.params4] at ht
  have hm : t ∈ [9, 23, 35] := by simpa using Array.mem_of_getElem? ht
  have hall : ([9, 23, 35].all fun u => !Tryd.prog.wantsStandIn u) = true := by kernel_rfl
  exact (show Tryd.prog.wantsStandIn t = false by simpa using List.all_eq_true.1 hall t hm)
theorem card_XmlwriteBuilds : Rows.XmlwriteBuildsCardSaid :=
  Claim7.holds_tied_plain_at .later [] _ _ _ _ said_XmlwriteBuilds (fun _ h => by cases h) (by kernel_rfl) (fun _ h => by cases h) xmlwriteBuilds_row_tie rfl ⟨rfl, rfl⟩ (by kernel_rfl) rfl plain_XmlwriteBuilds (by kernel_rfl)
end Go.Proofs.YtppmoeidgefkpaaDoor
end
