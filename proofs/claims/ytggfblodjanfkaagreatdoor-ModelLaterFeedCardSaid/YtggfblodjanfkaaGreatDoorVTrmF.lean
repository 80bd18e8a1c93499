/- Laws, for every input and whatever the memory: each returns true and leaves its arguments as they were, where the listed tables hold what the program's text lays. Proved: ModelLaterFeed. -/
import Derived.Test.YtggfblodjanfkaaGreatDoorVMeQ
import Derived.Test.YtggfblodjanfkaaGreatDoorVk4
import Derived.Test.YtggfblodjanfkaaGreatDoorVl6
import Derived.Test.YtggfblodjanfkaaGreatDoorCards
import Derived.Test.YtggfblodjanfkaaGreatDoorTie
import Derived.ProofKit
import Derived.OpenShut
import Derived.SliceStrings
import Derived.SizedLaws
import Derived.Lay
import Derived.LaidOnce
import Derived.SevenTiedAt
section
namespace Go.Proofs.YtggfblodjanfkaaGreatDoor
open Go.RowKit Go.Lib Go.ChangeShapes Go.WideShapes Go.ChangeAt
open Go.ChangeMaps (open_string shut_string)
theorem ownMF : ownKnob Tryz.prog.godebug = none := by kernel_rfl
theorem laidOutN : laidOutB Tryz.prog = true := by kernel_rfl
set_option maxRecDepth 100000 in
theorem lifted_ModelLaterFeed (os : Os) (started : os.Started) (H : Type) (enc : TypeId × Value → H) :
    ReturnsInHanded {} Tryz.checked os 4 .any (fun w args => (Rows.modelLaterFeedSpec.pre enc Tryz.prog Tryz.f4 [] false w args ∧ laidMetH Tryz.prog mdLaid w) ∧ sizedMet enc Tryz.prog Tryz.f4 (OpenSpec.ofChange Rows.modelLaterFeedSpec) false w args)
      (Rows.modelLaterFeedSpec.post enc Tryz.prog Tryz.f4 false true false false) := by
  refine returnsInHanded_of_change_and (C := Tryz.checked) (X := fun w _ => laidMetH Tryz.prog mdLaid w) (fun _ _ _ hh h => h.of_heap hh) ownMF started (by kernel_rfl) Tryz.func4
    (ChangeSpec.witness_shaped (enc := enc) (C := Tryz.checked) (os := os) (X := fun w _ => laidMetH Tryz.prog mdLaid w) false (World.laidAll Tryz.prog os mdLaid) #[.agg #[.slice none 0 0, .string ⟨#[]⟩, .string ⟨#[]⟩, .string ⟨#[]⟩, .int .i64 0, .slice none 0 0], .agg #[.slice none 0 0, .string ⟨#[]⟩, .string ⟨#[]⟩, .string ⟨#[]⟩, .int .i64 0, .slice none 0 0], .agg #[.slice none 0 0, .string ⟨#[]⟩, .string ⟨#[]⟩, .string ⟨#[]⟩, .int .i64 0, .slice none 0 0]] 8 (World.laidAll_os _ _ _)
      (World.shaped_of_ZipB (by kernel_rfl) (by kernel_rfl)) (by kernel_rfl) (by kernel_rfl) (by kernel_rfl)
      (by rw [MakeChecks.laidMetH_plain _ _ _ (by kernel_rfl)]; exact laidMet_laidAll _ (by kernel_rfl) (by kernel_rfl))) ?_
  intro W base args ds gs before hval0 hW _ hsz hL _
  have hval : ∀ (j : Nat) t v, Tryz.f4.params[j]? = some t → args[j]? = some v → Value.okWide Tryz.prog W .any base t v := hval0
  have hW' := hW
  obtain ⟨p, q, hA0, hV, rfl, _, _⟩ := hW
  have hA : DataW.TrodAll enc Tryz.prog W 0 (fun _ => true) true Tryz.f4.params.toList args.toList ds p := hA0
  rw [Tryz.params4] at hA hval hsz
  obtain ⟨v0, v1, v2, d0, d1, d2, p0, p1, p2, rfl, rfl, rfl, h0, h1, h2⟩ := trodAll_three hA
  obtain ⟨rfl, rfl⟩ := trodVars_none hV
  have hk0 := h0
  have hlt0 : ∀ x ∈ p0, x.block < W.heap.size := fun x hx => by simpa using hW'.lt x (by simp [hx])
  have hz0 : Sj Tryz.prog 30 d0 := fun z hz => of_decide_eq_true (List.all_eq_true.1 hsz _ (DataW.weights_mem_each (j := 0) (t := 30) rfl rfl z hz))
  obtain ⟨f0, hF0, hO0⟩ : ∃ f : FeedD, FeedIs W f v0 ∧ FOpen f := by
    obtain ⟨cs, rfl, _⟩ := okWide_struct (show Tryz.prog.underlying 30 = some (.struct (Tryz.prog.fieldsOf 30)) by kernel_rfl) (hval 0 30 v0 rfl rfl)
    obtain ⟨fuel, hf⟩ := h0
    obtain ⟨f, p, c, q, d, hc, hN, hE, hO⟩ := mopen_feed hf hz0
    exact ⟨f, ⟨p, c, q, d, congrArg Value.agg (Array.toList_inj.1 (by simpa [Value.cells] using hc)), hN, hE⟩, hO⟩
  have hk1 := h1
  have hlt1 : ∀ x ∈ p1, x.block < W.heap.size := fun x hx => by simpa using hW'.lt x (by simp [hx])
  have hz1 : Sj Tryz.prog 30 d1 := fun z hz => of_decide_eq_true (List.all_eq_true.1 hsz _ (DataW.weights_mem_each (j := 1) (t := 30) rfl rfl z hz))
  obtain ⟨f1, hF1, hO1⟩ : ∃ f : FeedD, FeedIs W f v1 ∧ FOpen f := by
    obtain ⟨cs, rfl, _⟩ := okWide_struct (show Tryz.prog.underlying 30 = some (.struct (Tryz.prog.fieldsOf 30)) by kernel_rfl) (hval 1 30 v1 rfl rfl)
    obtain ⟨fuel, hf⟩ := h1
    obtain ⟨f, p, c, q, d, hc, hN, hE, hO⟩ := mopen_feed hf hz1
    exact ⟨f, ⟨p, c, q, d, congrArg Value.agg (Array.toList_inj.1 (by simpa [Value.cells] using hc)), hN, hE⟩, hO⟩
  have hk2 := h2
  have hlt2 : ∀ x ∈ p2, x.block < W.heap.size := fun x hx => by simpa using hW'.lt x (by simp [hx])
  have hz2 : Sj Tryz.prog 30 d2 := fun z hz => of_decide_eq_true (List.all_eq_true.1 hsz _ (DataW.weights_mem_each (j := 2) (t := 30) rfl rfl z hz))
  obtain ⟨f2, hF2, hO2⟩ : ∃ f : FeedD, FeedIs W f v2 ∧ FOpen f := by
    obtain ⟨cs, rfl, _⟩ := okWide_struct (show Tryz.prog.underlying 30 = some (.struct (Tryz.prog.fieldsOf 30)) by kernel_rfl) (hval 2 30 v2 rfl rfl)
    obtain ⟨fuel, hf⟩ := h2
    obtain ⟨f, p, c, q, d, hc, hN, hE, hO⟩ := mopen_feed hf hz2
    exact ⟨f, ⟨p, c, q, d, congrArg Value.agg (Array.toList_inj.1 (by simpa [Value.cells] using hc)), hN, hE⟩, hO⟩
  simp only [List.append_nil] at hW'
  refine (walk_LaterFeed f0 f1 f2 v0 v1 v2 W hF0 hF1 hF2 hO0 hO1 hO2 (mdT_of_laid hL)).mono fun e W' ⟨he, hb⟩ => ?_
  subst he
  exact ⟨_, rfl, _, _, _, [], _, [], hW', trodAll_mk1 (shut_bool Tryz.underlying4 _), trodAll_mk3 (Below.trod laidOutN (by kernel_rfl) (of_decide_eq_true (by kernel_rfl)) hk0 hb hlt0) (Below.trod laidOutN (by kernel_rfl) (of_decide_eq_true (by kernel_rfl)) hk1 hb hlt1) (Below.trod laidOutN (by kernel_rfl) (of_decide_eq_true (by kernel_rfl)) hk2 hb hlt2), rfl, hb.frame _, fun h => by cases h⟩
theorem said_ModelLaterFeed : Rows.ModelLaterFeedSaid :=
  OpenClaim.holds_of_wide 4 Tryz.f4 rfl rfl rfl rfl rfl rfl rfl ⟨rfl, rfl, rfl, rfl, rfl⟩ rfl rfl rfl rfl rfl (by kernel_rfl) Tryz.func4 (by kernel_rfl)
    (of_decide_eq_true (by kernel_rfl)) (by unfold Func.isWrapper; first | (rw [if_pos (by decide +kernel)]; kernel_rfl) | (rw [if_neg (by decide +kernel)]; exact ⟨rfl, rfl⟩))
    (fun os started H enc _ => lifted_ModelLaterFeed os started H enc)
theorem plain_ModelLaterFeed (f : FuncId) (fn : Func) (hf : Tryz.pinned.checked.prog.funcNamed "feedvault/feedvaultlaw13.ModelLaterFeed" = some f) (hfn : Tryz.pinned.checked.prog.funcs[f]? = some fn) :
    false = Tryz.pinned.checked.prog.looks [] ∧ ∀ (j : Nat) t, fn.params[j]? = some t → Tryz.pinned.checked.prog.wantsStandIn t = false := by
  obtain rfl : f = 4 := Option.some.inj ((show Tryz.prog.funcNamed "feedvault/feedvaultlaw13.ModelLaterFeed" = some 4 by kernel_rfl).symm.trans hf) |>.symm
  obtain rfl : fn = Tryz.f4 := (Option.some.inj (Tryz.func4.symm.trans hfn)).symm
  refine ⟨by kernel_rfl, fun j t ht => ?_⟩
  rw [Tryz.params4] at ht
  have hm : t ∈ [30, 30, 30] := by simpa using Array.mem_of_getElem? ht
  have hall : ([30, 30, 30].all fun u => !Tryz.prog.wantsStandIn u) = true := by kernel_rfl
  exact (show Tryz.prog.wantsStandIn t = false by simpa using List.all_eq_true.1 hall t hm)
theorem card_ModelLaterFeed : Rows.ModelLaterFeedCardSaid :=
  Claim7.holds_tied_plain_at .later [] _ _ _ _ said_ModelLaterFeed (fun _ h => by cases h) (by kernel_rfl) (fun _ h => by cases h) modelLaterFeed_row_tie rfl ⟨rfl, rfl⟩ (by kernel_rfl) rfl plain_ModelLaterFeed (by kernel_rfl)
end Go.Proofs.YtggfblodjanfkaaGreatDoor
end
