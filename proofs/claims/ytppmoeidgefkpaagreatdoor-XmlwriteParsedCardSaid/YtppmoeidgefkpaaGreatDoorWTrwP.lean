/- The statement XmlwriteParsed of layer 9 holds: for every string, whatever the memory, it returns true and leaves its argument as it was. Conditions: those of its row alone (the listed tables hold what the program lays; sizes as the row bounds them). Packed from the text TrwP. -/
import Derived.Test.YtppmoeidgefkpaaGreatDoorWRfcW
import Derived.Test.YtppmoeidgefkpaaGreatDoorWTokX
import Derived.Test.YtppmoeidgefkpaaGreatDoorWkZ
import Derived.Test.YtppmoeidgefkpaaGreatDoorCards
import Derived.Test.YtppmoeidgefkpaaGreatDoorTie
import Derived.ProofKit
import Derived.OpenShut
import Derived.SliceStrings
import Derived.SizedLaws
import Derived.Lay
import Derived.LaidOnce
import Derived.SevenTiedAt
set_option maxRecDepth 100000
namespace Go.Proofs.YtppmoeidgefkpaaGreatDoor
section
open Go.RowKit Go.Lib Go.ChangeShapes Go.WideShapes Go.ChangeAt
open Go.ChangeMaps (open_string shut_string)
theorem ownWP : ownKnob Tryz.prog.godebug = none := by kernel_rfl
theorem lifted_XmlwriteParsed (os : Os) (started : os.Started) (H : Type) (enc : TypeId × Value → H) :
  ReturnsInHanded {} Tryz.checked os 4 .any (fun w args => (Rows.xmlwriteParsedSpec.pre enc Tryz.prog Tryz.f4 [] false w args ∧ laidMetH Tryz.prog tokLaid w) ∧ sizedMet enc Tryz.prog Tryz.f4 (OpenSpec.ofChange Rows.xmlwriteParsedSpec) false w args)
   (Rows.xmlwriteParsedSpec.post enc Tryz.prog Tryz.f4 false true false false) := by
 refine handed_with (C := Tryz.checked) (X := laidMetH Tryz.prog tokLaid) ownWP started (by kernel_rfl) Tryz.func4 (fun _ _ hh h => h.of_heap hh)
  (ChangeSpec.witness_shaped (enc := enc) (C := Tryz.checked) (os := os) (X := fun w _ => laidMetH Tryz.prog tokLaid w) false (World.laidAll Tryz.prog os tokLaid) #[.string ⟨#[]⟩] 8 (World.laidAll_os _ _ _)
   (World.shaped_of_ZipB (by kernel_rfl) (by kernel_rfl)) (by kernel_rfl) (by kernel_rfl) (by kernel_rfl)
   (by rw [MakeChecks.laidMetH_plain _ _ _ (by kernel_rfl)]; exact laidMet_laidAll _ (by kernel_rfl) (by kernel_rfl))) ?_
 intro W base args ds gs before hval0 hW hsh hL
 have hval : ∀ (j : Nat) t v, Tryz.f4.params[j]? = some t → args[j]? = some v → Value.okWide Tryz.prog W .any base t v := hval0
 have hW' := hW
 obtain ⟨p, q, hA0, hV, rfl, _, _⟩ := hW
 have hA : DataW.TrodAll enc Tryz.prog W 0 (fun _ => true) true Tryz.f4.params.toList args.toList ds p := hA0
 rw [Tryz.params4] at hA hval
 obtain ⟨v0, d0, rfl, rfl, h0⟩ := trodAll_one hA
 obtain ⟨rfl, rfl⟩ := trodVars_none hV
 obtain ⟨s0, rfl, rfl, rfl, ws0⟩ := open_string Tryz.underlying9 (hval 0 9 v0 rfl rfl) h0
 simp only [List.append_nil] at hW'
 refine (walk_WrParsed s0 W (tokT_of_laid hL hsh) ).mono fun e W' ⟨he, hb⟩ => ?_
 subst he
 exact ⟨_, rfl, _, _, _, [], [], [], hW', trodAll_mk1 (shut_bool Tryz.underlying4 _), trodAll_mk1 (shut_string Tryz.underlying9 ws0), rfl, hb.frame _, fun h => by cases h⟩
theorem said_XmlwriteParsed : Rows.XmlwriteParsedSaid :=
 OpenClaim.holds_of_wide 4 Tryz.f4 rfl rfl rfl rfl rfl rfl rfl ⟨rfl, rfl, rfl, rfl, rfl⟩ rfl rfl rfl rfl rfl (by kernel_rfl) Tryz.func4 (by kernel_rfl)
  (of_decide_eq_true (by kernel_rfl)) (by unfold Func.isWrapper; first | (rw [if_pos (by decide +kernel)]; kernel_rfl) | (rw [if_neg (by decide +kernel)]; exact ⟨rfl, rfl⟩))
  (fun os started H enc _ => lifted_XmlwriteParsed os started H enc)
theorem plain_XmlwriteParsed (f : FuncId) (fn : Func) (hf : Tryz.pinned.checked.prog.funcNamed "feedvault/feedvaultlaw09.XmlwriteParsed" = some f) (hfn : Tryz.pinned.checked.prog.funcs[f]? = some fn) :
  false = Tryz.pinned.checked.prog.looks [] ∧ ∀ (j : Nat) t, fn.params[j]? = some t → Tryz.pinned.checked.prog.wantsStandIn t = false := by
 obtain rfl : f = 4 := Option.some.inj ((show Tryz.prog.funcNamed "feedvault/feedvaultlaw09.XmlwriteParsed" = some 4 by kernel_rfl).symm.trans hf) |>.symm
 obtain rfl : fn = Tryz.f4 := (Option.some.inj (Tryz.func4.symm.trans hfn)).symm
 refine ⟨by kernel_rfl, fun j t ht => ?_⟩
 rw [Tryz.params4] at ht
 have hm : t ∈ [9] := by simpa using Array.mem_of_getElem? ht
 have hall : ([9].all fun u => !Tryz.prog.wantsStandIn u) = true := by kernel_rfl
 exact (show Tryz.prog.wantsStandIn t = false by simpa using List.all_eq_true.1 hall t hm)
theorem card_XmlwriteParsed : Rows.XmlwriteParsedCardSaid :=
 Claim7.holds_tied_plain_at .later [] _ _ _ _ said_XmlwriteParsed (fun _ h => by cases h) (by kernel_rfl) (fun _ h => by cases h) xmlwriteParsed_row_tie rfl ⟨rfl, rfl⟩ (by kernel_rfl) rfl plain_XmlwriteParsed (by kernel_rfl)
end
end Go.Proofs.YtppmoeidgefkpaaGreatDoor
