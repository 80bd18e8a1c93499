/- Laws, for every input and whatever the memory: each returns true and leaves its arguments as they were, where the listed tables hold what the program's text lays. Proved: XmltokenConcatenation. -/
import Derived.Test.YtpphpnkijokffaaGreatDoorCards
import Derived.Test.YtpphpnkijokffaaGreatDoorTie
import Derived.Test.YtpphpnkijokffaaGreatDoorTokX
import Derived.Test.YtpphpnkijokffaaGreatDoorRfcW
import Derived.Test.YtpphpnkijokffaaGreatDoorTokWc
import Derived.ProofKit
import Derived.OpenShut
import Derived.SliceStrings
import Derived.SizedLaws
import Derived.Lay
import Derived.LaidOnce
import Derived.SevenTiedAt
namespace Go.Proofs.YtpphpnkijokffaaGreatDoor
open Go.RowKit Go.Lib Go.ChangeShapes Go.WideShapes Go.ChangeAt
open Go.ChangeMaps (open_string shut_string)

theorem ownZ : ownKnob Tryz.prog.godebug = none := by kernel_rfl

/-! ### XmltokenConcatenation -/
set_option maxRecDepth 100000 in
theorem lifted_XmltokenConcatenation (os : Os) (started : os.Started) (H : Type) (enc : TypeId × Value → H) :
    ReturnsInHanded {} Tryz.checked os 4 .any (fun w args => (Rows.xmltokenConcatenationSpec.pre enc Tryz.prog Tryz.f4 [] false w args ∧ laidMetH Tryz.prog tokLaid w) ∧ sizedMet enc Tryz.prog Tryz.f4 (OpenSpec.ofChange Rows.xmltokenConcatenationSpec) false w args)
      (Rows.xmltokenConcatenationSpec.post enc Tryz.prog Tryz.f4 false true false false) := by
  refine handed_sized (C := Tryz.checked) (X := laidMetH Tryz.prog tokLaid) ownZ started (by kernel_rfl) Tryz.func4 (fun _ _ hh h => h.of_heap hh)
    (ChangeSpec.witness_shaped (enc := enc) (C := Tryz.checked) (os := os) (X := fun w _ => laidMetH Tryz.prog tokLaid w) false (World.laidAll Tryz.prog os tokLaid) #[.string ⟨#[]⟩, .string ⟨#[]⟩] 8 (World.laidAll_os _ _ _)
      (World.shaped_of_ZipB (by kernel_rfl) (by kernel_rfl)) (by kernel_rfl) (by kernel_rfl) (by kernel_rfl)
      (by rw [MakeChecks.laidMetH_plain _ _ _ (by kernel_rfl)]; exact laidMet_laidAll _ (by kernel_rfl) (by kernel_rfl))) ?_
  intro W base args ds gs before hval0 hW hsz hsh hL
  have hval : ∀ (j : Nat) t v, Tryz.f4.params[j]? = some t → args[j]? = some v → Value.okWide Tryz.prog W .any base t v := hval0
  have hW' := hW
  obtain ⟨p, q, hA0, hV, rfl, _, _⟩ := hW
  have hA : DataW.TrodAll enc Tryz.prog W 0 (fun _ => true) true Tryz.f4.params.toList args.toList ds p := hA0
  rw [Tryz.params4] at hA hval hsz
  obtain ⟨v0, v1, d0, d1, p0, p1, rfl, rfl, rfl, h0, h1⟩ := trodAll_two hA
  obtain ⟨rfl, rfl⟩ := trodVars_none hV
  obtain ⟨s0, rfl, rfl, rfl, ws0⟩ := open_string Tryz.underlying9 (hval 0 9 v0 rfl rfl) h0
  have r0 : s0.size ≤ 140737488351232 := by
    have h := List.all_eq_true.1 hsz _ (DataW.weights_mem_each (j := 0) (t := 9) rfl rfl s0.data.toList.length (by simp [DataW.weights]))
    have h2 : s0.data.toList.length = s0.size := by simp
    rw [h2] at h
    exact of_decide_eq_true h
  obtain ⟨s1, rfl, rfl, rfl, ws1⟩ := open_string Tryz.underlying9 (hval 1 9 v1 rfl rfl) h1
  have r1 : s1.size ≤ 140737488351232 := by
    have h := List.all_eq_true.1 hsz _ (DataW.weights_mem_each (j := 1) (t := 9) rfl rfl s1.data.toList.length (by simp [DataW.weights]))
    have h2 : s1.data.toList.length = s1.size := by simp
    rw [h2] at h
    exact of_decide_eq_true h
  simp only [List.append_nil] at hW'
  refine (walk_TokConc s0 s1 W r0 r1 (tokT_of_laid hL hsh)).mono fun e W' ⟨he, hb⟩ => ?_
  subst he
  exact ⟨_, rfl, _, _, _, [], [], [], hW', trodAll_mk1 (shut_bool Tryz.underlying4 _), trodAll_mk2 (shut_string Tryz.underlying9 ws0) (shut_string Tryz.underlying9 ws1), rfl, hb.frame _, fun h => by cases h⟩
theorem said_XmltokenConcatenation : Rows.XmltokenConcatenationSaid :=
  OpenClaim.holds_of_wide 4 Tryz.f4 rfl rfl rfl rfl rfl rfl rfl ⟨rfl, rfl, rfl, rfl, rfl⟩ rfl rfl rfl rfl rfl (by kernel_rfl) Tryz.func4 (by kernel_rfl)
    (of_decide_eq_true (by kernel_rfl)) (by unfold Func.isWrapper; first | (rw [if_pos (by decide +kernel)]; kernel_rfl) | (rw [if_neg (by decide +kernel)]; exact ⟨rfl, rfl⟩))
    (fun os started H enc _ => lifted_XmltokenConcatenation os started H enc)
theorem plain_XmltokenConcatenation (f : FuncId) (fn : Func) (hf : Tryz.pinned.checked.prog.funcNamed "feedvault/feedvaultlaw06.XmltokenConcatenation" = some f) (hfn : Tryz.pinned.checked.prog.funcs[f]? = some fn) :
    false = Tryz.pinned.checked.prog.looks [] ∧ ∀ (j : Nat) t, fn.params[j]? = some t → Tryz.pinned.checked.prog.wantsStandIn t = false := by
  obtain rfl : f = 4 := Option.some.inj ((show Tryz.prog.funcNamed "feedvault/feedvaultlaw06.XmltokenConcatenation" = some 4 by kernel_rfl).symm.trans hf) |>.symm
  obtain rfl : fn = Tryz.f4 := (Option.some.inj (Tryz.func4.symm.trans hfn)).symm
  refine ⟨by kernel_rfl, fun j t ht => ?_⟩
  rw [Tryz.params4] at ht
  have hm : t ∈ [9, 9] := by simpa using Array.mem_of_getElem? ht
  have hall : ([9, 9].all fun u => !Tryz.prog.wantsStandIn u) = true := by kernel_rfl
  exact (show Tryz.prog.wantsStandIn t = false by simpa using List.all_eq_true.1 hall t hm)
theorem card_XmltokenConcatenation : Rows.XmltokenConcatenationCardSaid :=
  Claim7.holds_tied_plain_at .later [] _ _ _ _ said_XmltokenConcatenation (fun _ h => by cases h) (by kernel_rfl) (fun _ h => by cases h) xmltokenConcatenation_row_tie rfl ⟨rfl, rfl⟩ (by kernel_rfl) rfl plain_XmltokenConcatenation (by kernel_rfl)
end Go.Proofs.YtpphpnkijokffaaGreatDoor
