/- Laws, for every input and whatever the memory: each returns true and leaves its arguments as they were, where the listed tables hold what the program's text lays. Proved: JsonstringConcatenation. -/
import Derived.Test.YtdkinamblobjpaaDoorCards
import Derived.Test.YtdkinamblobjpaaDoorTie
import Derived.Test.YtdkinamblobjpaaDoorJsX
import Derived.Test.YtdkinamblobjpaaDoorJsM
import Derived.ProofKit
import Derived.OpenShut
import Derived.SliceStrings
import Derived.SizedLaws
import Derived.Lay
import Derived.LaidOnce
import Derived.SevenTiedAt
namespace Go.Proofs.YtdkinamblobjpaaDoor
open Go.RowKit Go.Lib Go.ChangeShapes Go.WideShapes Go.ChangeAt
open Go.ChangeMaps (open_string shut_string)

theorem ownJC : ownKnob Tryd.prog.godebug = none := by kernel_rfl

/-! ### JsonstringConcatenation -/
set_option maxRecDepth 100000 in
theorem lifted_JsonstringConcatenation (os : Os) (started : os.Started) (H : Type) (enc : TypeId × Value → H) :
    ReturnsInHanded {} Tryd.checked os 6 .any (fun w args => (Rows.jsonstringConcatenationSpec.pre enc Tryd.prog Tryd.f6 [] false w args ∧ laidMetH Tryd.prog jsLaid w) ∧ sizedMet enc Tryd.prog Tryd.f6 (OpenSpec.ofChange Rows.jsonstringConcatenationSpec) false w args)
      (Rows.jsonstringConcatenationSpec.post enc Tryd.prog Tryd.f6 false true false false) := by
  refine returnsInHanded_of_change_and (C := Tryd.checked) (X := fun w _ => laidMetH Tryd.prog jsLaid w) (fun _ _ _ hh h => h.of_heap hh) ownJC started (by kernel_rfl) Tryd.func6
    (ChangeSpec.witness_shaped (enc := enc) (C := Tryd.checked) (os := os) (X := fun w _ => laidMetH Tryd.prog jsLaid w) false (World.laidAll Tryd.prog os jsLaid) #[.string ⟨#[]⟩, .string ⟨#[]⟩] 8 (World.laidAll_os _ _ _)
      (World.shaped_of_ZipB (by kernel_rfl) (by kernel_rfl)) (by kernel_rfl) (by kernel_rfl) (by kernel_rfl)
      (by rw [MakeChecks.laidMetH_plain _ _ _ (by kernel_rfl)]; exact laidMet_laidAll _ (by kernel_rfl) (by kernel_rfl))) ?_
  intro W base args ds gs before hval0 hW _ hsz hL _
  have hval : ∀ (j : Nat) t v, Tryd.f6.params[j]? = some t → args[j]? = some v → Value.okWide Tryd.prog W .any base t v := hval0
  have hW' := hW
  obtain ⟨p, q, hA0, hV, rfl, _, _⟩ := hW
  have hA : DataW.TrodAll enc Tryd.prog W 0 (fun _ => true) true Tryd.f6.params.toList args.toList ds p := hA0
  rw [Tryd.params6] at hA hval hsz
  obtain ⟨v0, v1, d0, d1, p0, p1, rfl, rfl, rfl, h0, h1⟩ := trodAll_two hA
  obtain ⟨rfl, rfl⟩ := trodVars_none hV
  obtain ⟨s0, rfl, rfl, rfl, ws0⟩ := open_string Tryd.underlying9 (hval 0 9 v0 rfl rfl) h0
  have r0 : s0.size ≤ 140737488351232 := by
    have h := List.all_eq_true.1 hsz _ (DataW.weights_mem_each (j := 0) (t := 9) rfl rfl s0.data.toList.length (by simp [DataW.weights]))
    have h2 : s0.data.toList.length = s0.size := by simp
    rw [h2] at h
    exact of_decide_eq_true h
  obtain ⟨s1, rfl, rfl, rfl, ws1⟩ := open_string Tryd.underlying9 (hval 1 9 v1 rfl rfl) h1
  have r1 : s1.size ≤ 140737488351232 := by
    have h := List.all_eq_true.1 hsz _ (DataW.weights_mem_each (j := 1) (t := 9) rfl rfl s1.data.toList.length (by simp [DataW.weights]))
    have h2 : s1.data.toList.length = s1.size := by simp
    rw [h2] at h
    exact of_decide_eq_true h
  simp only [List.append_nil] at hW'
  refine (walk_JsCat s0 s1 W (jsT_of_laid hL) r0 r1).mono fun e W' ⟨he, hb⟩ => ?_
  subst he
  exact ⟨_, rfl, _, _, _, [], [], [], hW', trodAll_mk1 (shut_bool Tryd.underlying4 _), trodAll_mk2 (shut_string Tryd.underlying9 ws0) (shut_string Tryd.underlying9 ws1), rfl, hb.frame _, fun h => by cases h⟩
theorem said_JsonstringConcatenation : Rows.JsonstringConcatenationSaid :=
  OpenClaim.holds_of_wide 6 Tryd.f6 rfl rfl rfl rfl rfl rfl rfl ⟨rfl, rfl, rfl, rfl, rfl⟩ rfl rfl rfl rfl rfl (by kernel_rfl) Tryd.func6 (by kernel_rfl)
    (of_decide_eq_true (by kernel_rfl)) (by unfold Func.isWrapper; first | (rw [if_pos (by decide +kernel)]; kernel_rfl) | (rw [if_neg (by decide +kernel)]; exact ⟨rfl, rfl⟩))
    (fun os started H enc _ => lifted_JsonstringConcatenation os started H enc)
theorem plain_JsonstringConcatenation (f : FuncId) (fn : Func) (hf : Tryd.pinned.checked.prog.funcNamed "feedvault/feedvaultlaw10.JsonstringConcatenation" = some f) (hfn : Tryd.pinned.checked.prog.funcs[f]? = some fn) :
    true = Tryd.pinned.checked.prog.looks [] ∧ ∀ (j : Nat) t, fn.params[j]? = some t → Tryd.pinned.checked.prog.wantsStandIn t = false := by
  obtain rfl : f = 6 := Option.some.inj ((show Tryd.prog.funcNamed "feedvault/feedvaultlaw10.JsonstringConcatenation" = some 6 by kernel_rfl).symm.trans hf) |>.symm
  obtain rfl : fn = Tryd.f6 := (Option.some.inj (Tryd.func6.symm.trans hfn)).symm
  refine ⟨by kernel_rfl, fun j t ht => ?_⟩
  rw [Tryd.params6] at ht
  have hm : t ∈ [9, 9] := by simpa using Array.mem_of_getElem? ht
  have hall : ([9, 9].all fun u => !Tryd.prog.wantsStandIn u) = true := by kernel_rfl
  exact (show Tryd.prog.wantsStandIn t = false by simpa using List.all_eq_true.1 hall t hm)
theorem card_JsonstringConcatenation : Rows.JsonstringConcatenationCardSaid :=
  Claim7.holds_tied_plain_at .later [] _ _ _ _ said_JsonstringConcatenation (fun _ h => by cases h) (by kernel_rfl) (fun _ h => by cases h) jsonstringConcatenation_row_tie rfl ⟨rfl, rfl⟩ (by kernel_rfl) rfl plain_JsonstringConcatenation (by kernel_rfl)
end Go.Proofs.YtdkinamblobjpaaDoor
