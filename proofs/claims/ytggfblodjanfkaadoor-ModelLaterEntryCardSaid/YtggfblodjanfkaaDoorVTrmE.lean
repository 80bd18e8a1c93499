/- Laws, for every input and whatever the memory: each returns true and leaves its arguments as they were, where the listed tables hold what the program's text lays. Proved: ModelLaterEntry. -/
import Derived.Test.YtggfblodjanfkaaDoorVMeM
import Derived.Test.YtggfblodjanfkaaDoorVk4
import Derived.Test.YtggfblodjanfkaaDoorVl6
import Derived.Test.YtggfblodjanfkaaDoorCards
import Derived.Test.YtggfblodjanfkaaDoorTie
import Derived.ProofKit
import Derived.OpenShut
import Derived.SliceStrings
import Derived.SizedLaws
import Derived.Lay
import Derived.LaidOnce
import Derived.SevenTiedAt
section
namespace Go.Proofs.YtggfblodjanfkaaDoor
open Go.RowKit Go.Lib Go.ChangeShapes Go.WideShapes Go.ChangeAt
open Go.ChangeMaps (open_string shut_string)
theorem ownME : ownKnob Tryd.prog.godebug = none := by kernel_rfl
theorem laidOutN : laidOutB Tryd.prog = true := by kernel_rfl
set_option maxRecDepth 100000 in
theorem lifted_ModelLaterEntry (os : Os) (started : os.Started) (H : Type) (enc : TypeId × Value → H) :
    ReturnsInHanded {} Tryd.checked os 6 .any (fun w args => (Rows.modelLaterEntrySpec.pre enc Tryd.prog Tryd.f6 [] false w args ∧ laidMetH Tryd.prog mdLaid w) ∧ sizedMet enc Tryd.prog Tryd.f6 (OpenSpec.ofChange Rows.modelLaterEntrySpec) false w args)
      (Rows.modelLaterEntrySpec.post enc Tryd.prog Tryd.f6 false true false false) := by
  refine returnsInHanded_of_change_and (C := Tryd.checked) (X := fun w _ => laidMetH Tryd.prog mdLaid w) (fun _ _ _ hh h => h.of_heap hh) ownME started (by kernel_rfl) Tryd.func6
    (ChangeSpec.witness_shaped (enc := enc) (C := Tryd.checked) (os := os) (X := fun w _ => laidMetH Tryd.prog mdLaid w) false (World.laidAll Tryd.prog os mdLaid) #[.agg #[.string ⟨#[]⟩, .string ⟨#[]⟩, .string ⟨#[]⟩, .string ⟨#[]⟩, .int .i64 0], .agg #[.string ⟨#[]⟩, .string ⟨#[]⟩, .string ⟨#[]⟩, .string ⟨#[]⟩, .int .i64 0], .agg #[.string ⟨#[]⟩, .string ⟨#[]⟩, .string ⟨#[]⟩, .string ⟨#[]⟩, .int .i64 0]] 8 (World.laidAll_os _ _ _)
      (World.shaped_of_ZipB (by kernel_rfl) (by kernel_rfl)) (by kernel_rfl) (by kernel_rfl) (by kernel_rfl)
      (by rw [MakeChecks.laidMetH_plain _ _ _ (by kernel_rfl)]; exact laidMet_laidAll _ (by kernel_rfl) (by kernel_rfl))) ?_
  intro W base args ds gs before hval0 hW _ hsz hL _
  have hval : ∀ (j : Nat) t v, Tryd.f6.params[j]? = some t → args[j]? = some v → Value.okWide Tryd.prog W .any base t v := hval0
  have hW' := hW
  obtain ⟨p, q, hA0, hV, rfl, _, _⟩ := hW
  have hA : DataW.TrodAll enc Tryd.prog W 0 (fun _ => true) true Tryd.f6.params.toList args.toList ds p := hA0
  rw [Tryd.params6] at hA hval hsz
  obtain ⟨v0, v1, v2, d0, d1, d2, p0, p1, p2, rfl, rfl, rfl, h0, h1, h2⟩ := trodAll_three hA
  obtain ⟨rfl, rfl⟩ := trodVars_none hV
  have hk0 := h0
  have hlt0 : ∀ x ∈ p0, x.block < W.heap.size := fun x hx => by simpa using hW'.lt x (by simp [hx])
  have hz0 : Sj Tryd.prog 29 d0 := fun z hz => of_decide_eq_true (List.all_eq_true.1 hsz _ (DataW.weights_mem_each (j := 0) (t := 29) rfl rfl z hz))
  obtain ⟨e0, rfl, hw0⟩ : ∃ e : EntD, v0 = EntV e ∧ EWf e := by
    obtain ⟨cs, rfl, _⟩ := okWide_struct (show Tryd.prog.underlying 29 = some (.struct (Tryd.prog.fieldsOf 29)) by kernel_rfl) (hval 0 29 v0 rfl rfl)
    obtain ⟨fuel, hf⟩ := h0
    obtain ⟨e, hc, hw⟩ := mopen_ent hf hz0
    exact ⟨e, congrArg Value.agg (Array.toList_inj.1 (by simpa [Value.cells] using hc)), hw⟩
  have hk1 := h1
  have hlt1 : ∀ x ∈ p1, x.block < W.heap.size := fun x hx => by simpa using hW'.lt x (by simp [hx])
  have hz1 : Sj Tryd.prog 29 d1 := fun z hz => of_decide_eq_true (List.all_eq_true.1 hsz _ (DataW.weights_mem_each (j := 1) (t := 29) rfl rfl z hz))
  obtain ⟨e1, rfl, hw1⟩ : ∃ e : EntD, v1 = EntV e ∧ EWf e := by
    obtain ⟨cs, rfl, _⟩ := okWide_struct (show Tryd.prog.underlying 29 = some (.struct (Tryd.prog.fieldsOf 29)) by kernel_rfl) (hval 1 29 v1 rfl rfl)
    obtain ⟨fuel, hf⟩ := h1
    obtain ⟨e, hc, hw⟩ := mopen_ent hf hz1
    exact ⟨e, congrArg Value.agg (Array.toList_inj.1 (by simpa [Value.cells] using hc)), hw⟩
  have hk2 := h2
  have hlt2 : ∀ x ∈ p2, x.block < W.heap.size := fun x hx => by simpa using hW'.lt x (by simp [hx])
  have hz2 : Sj Tryd.prog 29 d2 := fun z hz => of_decide_eq_true (List.all_eq_true.1 hsz _ (DataW.weights_mem_each (j := 2) (t := 29) rfl rfl z hz))
  obtain ⟨e2, rfl, hw2⟩ : ∃ e : EntD, v2 = EntV e ∧ EWf e := by
    obtain ⟨cs, rfl, _⟩ := okWide_struct (show Tryd.prog.underlying 29 = some (.struct (Tryd.prog.fieldsOf 29)) by kernel_rfl) (hval 2 29 v2 rfl rfl)
    obtain ⟨fuel, hf⟩ := h2
    obtain ⟨e, hc, hw⟩ := mopen_ent hf hz2
    exact ⟨e, congrArg Value.agg (Array.toList_inj.1 (by simpa [Value.cells] using hc)), hw⟩
  simp only [List.append_nil] at hW'
  refine (walk_LaterEntry e0 e1 e2 W hw0 hw1 hw2 (mdT_of_laid hL)).mono fun e W' ⟨he, hb⟩ => ?_
  subst he
  exact ⟨_, rfl, _, _, _, [], _, [], hW', trodAll_mk1 (shut_bool Tryd.underlying4 _), trodAll_mk3 (Below.trod laidOutN (by kernel_rfl) (of_decide_eq_true (by kernel_rfl)) hk0 hb hlt0) (Below.trod laidOutN (by kernel_rfl) (of_decide_eq_true (by kernel_rfl)) hk1 hb hlt1) (Below.trod laidOutN (by kernel_rfl) (of_decide_eq_true (by kernel_rfl)) hk2 hb hlt2), rfl, hb.frame _, fun h => by cases h⟩
theorem said_ModelLaterEntry : Rows.ModelLaterEntrySaid :=
  OpenClaim.holds_of_wide 6 Tryd.f6 rfl rfl rfl rfl rfl rfl rfl ⟨rfl, rfl, rfl, rfl, rfl⟩ rfl rfl rfl rfl rfl (by kernel_rfl) Tryd.func6 (by kernel_rfl)
    (of_decide_eq_true (by kernel_rfl)) (by unfold Func.isWrapper; first | (rw [if_pos (by decide +kernel)]; kernel_rfl) | (rw [if_neg (by decide +kernel)]; exact ⟨rfl, rfl⟩))
    (fun os started H enc _ => lifted_ModelLaterEntry os started H enc)
theorem plain_ModelLaterEntry (f : FuncId) (fn : Func) (hf : Tryd.pinned.checked.prog.funcNamed "feedvault/feedvaultlaw13.ModelLaterEntry" = some f) (hfn : Tryd.pinned.checked.prog.funcs[f]? = some fn) :
    false = Tryd.pinned.checked.prog.looks [] ∧ ∀ (j : Nat) t, fn.params[j]? = some t → Tryd.pinned.checked.prog.wantsStandIn t = false := by
  obtain rfl : f = 6 := Option.some.inj ((show Tryd.prog.funcNamed "feedvault/feedvaultlaw13.ModelLaterEntry" = some 6 by kernel_rfl).symm.trans hf) |>.symm
  obtain rfl : fn = Tryd.f6 := (Option.some.inj (Tryd.func6.symm.trans hfn)).symm
  refine ⟨by kernel_rfl, fun j t ht => ?_⟩
  rw [Tryd.params6] at ht
  have hm : t ∈ [29, 29, 29] := by simpa using Array.mem_of_getElem? ht
  have hall : ([29, 29, 29].all fun u => !Tryd.prog.wantsStandIn u) = true := by kernel_rfl
  exact (show Tryd.prog.wantsStandIn t = false by simpa using List.all_eq_true.1 hall t hm)
theorem card_ModelLaterEntry : Rows.ModelLaterEntryCardSaid :=
  Claim7.holds_tied_plain_at .later [] _ _ _ _ said_ModelLaterEntry (fun _ h => by cases h) (by kernel_rfl) (fun _ h => by cases h) modelLaterEntry_row_tie rfl ⟨rfl, rfl⟩ (by kernel_rfl) rfl plain_ModelLaterEntry (by kernel_rfl)
end Go.Proofs.YtggfblodjanfkaaDoor
end
