/- Laws, for every input and whatever the memory: each returns true and leaves its arguments as they were, where the listed tables hold what the program's text lays. Proved: ModelOrders. -/
import Derived.Test.YtggfblodjanfkaaDoorVMeN
import Derived.Test.YtggfblodjanfkaaDoorVk4
import Derived.Test.YtggfblodjanfkaaDoorVl6
import Derived.Test.YtggfblodjanfkaaDoorCards
import Derived.Test.YtggfblodjanfkaaDoorTie
import Derived.ProofKit
import Derived.OpenShut
import Derived.SliceStrings
import Derived.SizedLaws
import Derived.Lay
import Derived.LaidOnce
import Derived.SevenTiedAt
section
namespace Go.Proofs.YtggfblodjanfkaaDoor
open Go.RowKit Go.Lib Go.ChangeShapes Go.WideShapes Go.ChangeAt
open Go.ChangeMaps (open_string shut_string)
theorem ownMO : ownKnob Tryd.prog.godebug = none := by kernel_rfl
theorem laidOutN : laidOutB Tryd.prog = true := by kernel_rfl
set_option maxRecDepth 100000 in
theorem lifted_ModelOrders (os : Os) (started : os.Started) (H : Type) (enc : TypeId × Value → H) :
    ReturnsInHanded {} Tryd.checked os 4 .any (fun w args => (Rows.modelOrdersSpec.pre enc Tryd.prog Tryd.f4 [] false w args ∧ laidMetH Tryd.prog mdLaid w) ∧ sizedMet enc Tryd.prog Tryd.f4 (OpenSpec.ofChange Rows.modelOrdersSpec) false w args)
      (Rows.modelOrdersSpec.post enc Tryd.prog Tryd.f4 false true false false) := by
  refine returnsInHanded_of_change_and (C := Tryd.checked) (X := fun w _ => laidMetH Tryd.prog mdLaid w) (fun _ _ _ hh h => h.of_heap hh) ownMO started (by kernel_rfl) Tryd.func4
    (ChangeSpec.witness_shaped (enc := enc) (C := Tryd.checked) (os := os) (X := fun w _ => laidMetH Tryd.prog mdLaid w) false (World.laidAll Tryd.prog os mdLaid) #[.agg #[.slice none 0 0, .string ⟨#[]⟩, .string ⟨#[]⟩, .string ⟨#[]⟩, .int .i64 0, .slice none 0 0], .agg #[.slice none 0 0, .string ⟨#[]⟩, .string ⟨#[]⟩, .string ⟨#[]⟩, .int .i64 0, .slice none 0 0], .agg #[.slice none 0 0, .string ⟨#[]⟩, .string ⟨#[]⟩, .string ⟨#[]⟩, .int .i64 0, .slice none 0 0]] 8 (World.laidAll_os _ _ _)
      (World.shaped_of_ZipB (by kernel_rfl) (by kernel_rfl)) (by kernel_rfl) (by kernel_rfl) (by kernel_rfl)
      (by rw [MakeChecks.laidMetH_plain _ _ _ (by kernel_rfl)]; exact laidMet_laidAll _ (by kernel_rfl) (by kernel_rfl))) ?_
  intro W base args ds gs before hval0 hW _ hsz hL _
  have hval : ∀ (j : Nat) t v, Tryd.f4.params[j]? = some t → args[j]? = some v → Value.okWide Tryd.prog W .any base t v := hval0
  have hW' := hW
  obtain ⟨p, q, hA0, hV, rfl, _, _⟩ := hW
  have hA : DataW.TrodAll enc Tryd.prog W 0 (fun _ => true) true Tryd.f4.params.toList args.toList ds p := hA0
  rw [Tryd.params4] at hA hval hsz
  obtain ⟨v0, v1, v2, d0, d1, d2, p0, p1, p2, rfl, rfl, rfl, h0, h1, h2⟩ := trodAll_three hA
  obtain ⟨rfl, rfl⟩ := trodVars_none hV
  have hk0 := h0
  have hlt0 : ∀ x ∈ p0, x.block < W.heap.size := fun x hx => by simpa using hW'.lt x (by simp [hx])
  have hz0 : Sj Tryd.prog 25 d0 := fun z hz => of_decide_eq_true (List.all_eq_true.1 hsz _ (DataW.weights_mem_each (j := 0) (t := 25) rfl rfl z hz))
  obtain ⟨f0, hF0, hO0⟩ : ∃ f : FeedD, FeedIs W f v0 ∧ FOpen f := by
    obtain ⟨cs, rfl, _⟩ := okWide_struct (show Tryd.prog.underlying 25 = some (.struct (Tryd.prog.fieldsOf 25)) by kernel_rfl) (hval 0 25 v0 rfl rfl)
    obtain ⟨fuel, hf⟩ := h0
    obtain ⟨f, p, c, q, d, hc, hN, hE, hO⟩ := mopen_feed hf hz0
    exact ⟨f, ⟨p, c, q, d, congrArg Value.agg (Array.toList_inj.1 (by simpa [Value.cells] using hc)), hN, hE⟩, hO⟩
  have hk1 := h1
  have hlt1 : ∀ x ∈ p1, x.block < W.heap.size := fun x hx => by simpa using hW'.lt x (by simp [hx])
  have hz1 : Sj Tryd.prog 25 d1 := fun z hz => of_decide_eq_true (List.all_eq_true.1 hsz _ (DataW.weights_mem_each (j := 1) (t := 25) rfl rfl z hz))
  obtain ⟨f1, hF1, hO1⟩ : ∃ f : FeedD, FeedIs W f v1 ∧ FOpen f := by
    obtain ⟨cs, rfl, _⟩ := okWide_struct (show Tryd.prog.underlying 25 = some (.struct (Tryd.prog.fieldsOf 25)) by kernel_rfl) (hval 1 25 v1 rfl rfl)
    obtain ⟨fuel, hf⟩ := h1
    obtain ⟨f, p, c, q, d, hc, hN, hE, hO⟩ := mopen_feed hf hz1
    exact ⟨f, ⟨p, c, q, d, congrArg Value.agg (Array.toList_inj.1 (by simpa [Value.cells] using hc)), hN, hE⟩, hO⟩
  have hk2 := h2
  have hlt2 : ∀ x ∈ p2, x.block < W.heap.size := fun x hx => by simpa using hW'.lt x (by simp [hx])
  have hz2 : Sj Tryd.prog 25 d2 := fun z hz => of_decide_eq_true (List.all_eq_true.1 hsz _ (DataW.weights_mem_each (j := 2) (t := 25) rfl rfl z hz))
  obtain ⟨f2, hF2, hO2⟩ : ∃ f : FeedD, FeedIs W f v2 ∧ FOpen f := by
    obtain ⟨cs, rfl, _⟩ := okWide_struct (show Tryd.prog.underlying 25 = some (.struct (Tryd.prog.fieldsOf 25)) by kernel_rfl) (hval 2 25 v2 rfl rfl)
    obtain ⟨fuel, hf⟩ := h2
    obtain ⟨f, p, c, q, d, hc, hN, hE, hO⟩ := mopen_feed hf hz2
    exact ⟨f, ⟨p, c, q, d, congrArg Value.agg (Array.toList_inj.1 (by simpa [Value.cells] using hc)), hN, hE⟩, hO⟩
  simp only [List.append_nil] at hW'
  refine (walk_Orders f0 f1 f2 v0 v1 v2 W hF0 hF1 hF2 hO0.1 hO1.1 hO2.1 (mdT_of_laid hL)).mono fun e W' ⟨he, hb⟩ => ?_
  subst he
  exact ⟨_, rfl, _, _, _, [], _, [], hW', trodAll_mk1 (shut_bool Tryd.underlying4 _), trodAll_mk3 (Below.trod laidOutN (by kernel_rfl) (of_decide_eq_true (by kernel_rfl)) hk0 hb hlt0) (Below.trod laidOutN (by kernel_rfl) (of_decide_eq_true (by kernel_rfl)) hk1 hb hlt1) (Below.trod laidOutN (by kernel_rfl) (of_decide_eq_true (by kernel_rfl)) hk2 hb hlt2), rfl, hb.frame _, fun h => by cases h⟩
theorem said_ModelOrders : Rows.ModelOrdersSaid :=
  OpenClaim.holds_of_wide 4 Tryd.f4 rfl rfl rfl rfl rfl rfl rfl ⟨rfl, rfl, rfl, rfl, rfl⟩ rfl rfl rfl rfl rfl (by kernel_rfl) Tryd.func4 (by kernel_rfl)
    (of_decide_eq_true (by kernel_rfl)) (by unfold Func.isWrapper; first | (rw [if_pos (by decide +kernel)]; kernel_rfl) | (rw [if_neg (by decide +kernel)]; exact ⟨rfl, rfl⟩))
    (fun os started H enc _ => lifted_ModelOrders os started H enc)
theorem plain_ModelOrders (f : FuncId) (fn : Func) (hf : Tryd.pinned.checked.prog.funcNamed "feedvault/feedvaultlaw13.ModelOrders" = some f) (hfn : Tryd.pinned.checked.prog.funcs[f]? = some fn) :
    false = Tryd.pinned.checked.prog.looks [] ∧ ∀ (j : Nat) t, fn.params[j]? = some t → Tryd.pinned.checked.prog.wantsStandIn t = false := by
  obtain rfl : f = 4 := Option.some.inj ((show Tryd.prog.funcNamed "feedvault/feedvaultlaw13.ModelOrders" = some 4 by kernel_rfl).symm.trans hf) |>.symm
  obtain rfl : fn = Tryd.f4 := (Option.some.inj (Tryd.func4.symm.trans hfn)).symm
  refine ⟨by kernel_rfl, fun j t ht => ?_⟩
  rw [Tryd.params4] at ht
  have hm : t ∈ [25, 25, 25] := by simpa using Array.mem_of_getElem? ht
  have hall : ([25, 25, 25].all fun u => !Tryd.prog.wantsStandIn u) = true := by kernel_rfl
  exact (show Tryd.prog.wantsStandIn t = false by simpa using List.all_eq_true.1 hall t hm)
theorem card_ModelOrders : Rows.ModelOrdersCardSaid :=
  Claim7.holds_tied_plain_at .later [] _ _ _ _ said_ModelOrders (fun _ h => by cases h) (by kernel_rfl) (fun _ h => by cases h) modelOrders_row_tie rfl ⟨rfl, rfl⟩ (by kernel_rfl) rfl plain_ModelOrders (by kernel_rfl)
end Go.Proofs.YtggfblodjanfkaaDoor
end
