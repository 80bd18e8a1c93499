/- Packed from the texts TrwJ. -/
import Derived.Test.YtppmoeidgefkpaaDoorVRfcW
import Derived.Test.YtppmoeidgefkpaaDoorVTextX
import Derived.Test.YtppmoeidgefkpaaDoorVTrfO
import Derived.Test.YtppmoeidgefkpaaDoorVkV
import Derived.Test.YtppmoeidgefkpaaDoorCards
import Derived.Test.YtppmoeidgefkpaaDoorTie
import Derived.ProofKit
import Derived.OpenShut
import Derived.SliceStrings
import Derived.SizedLaws
import Derived.Lay
import Derived.LaidOnce
import Derived.SevenTiedAt
section
namespace Go.Proofs.YtppmoeidgefkpaaDoor
open Go.RowKit Go.Lib Go.ChangeShapes Go.WideShapes Go.ChangeAt
open Go.ChangeMaps (open_string shut_string)
theorem ownWJ : ownKnob Tryd.prog.godebug = none := by kernel_rfl
theorem laidOutN : laidOutB Tryd.prog = true := by kernel_rfl
set_option maxRecDepth 100000 in
theorem lifted_XmlwriteIsInjective (os : Os) (started : os.Started) (H : Type) (enc : TypeId × Value → H) :
    ReturnsInHanded {} Tryd.checked os 5 .any (fun w args => (Rows.xmlwriteIsInjectiveSpec.pre enc Tryd.prog Tryd.f5 [] false w args ∧ laidMetH Tryd.prog laid1 w) ∧ sizedMet enc Tryd.prog Tryd.f5 (OpenSpec.ofChange Rows.xmlwriteIsInjectiveSpec) false w args)
      (Rows.xmlwriteIsInjectiveSpec.post enc Tryd.prog Tryd.f5 false true false false) := by
  refine handed_sized (C := Tryd.checked) (X := laidMetH Tryd.prog laid1) ownWJ started (by kernel_rfl) Tryd.func5 (fun _ _ hh h => h.of_heap hh)
    (ChangeSpec.witness_shaped (enc := enc) (C := Tryd.checked) (os := os) (X := fun w _ => laidMetH Tryd.prog laid1 w) false (World.laidAll Tryd.prog os laid1) #[.agg #[.int .i64 0, .string ⟨#[]⟩, .string ⟨#[]⟩, .slice none 0 0, .slice none 0 0, .string ⟨#[]⟩, .int .i64 0], .agg #[.int .i64 0, .string ⟨#[]⟩, .string ⟨#[]⟩, .slice none 0 0, .slice none 0 0, .string ⟨#[]⟩, .int .i64 0]] 8 (World.laidAll_os _ _ _)
      (World.shaped_of_ZipB (by kernel_rfl) (by kernel_rfl)) (by kernel_rfl) (by kernel_rfl) (by kernel_rfl)
      (by rw [MakeChecks.laidMetH_plain _ _ _ (by kernel_rfl)]; exact laidMet_laidAll _ (by kernel_rfl) (by kernel_rfl))) ?_
  intro W base args ds gs before hval0 hW hsz hsh hL
  have hval : ∀ (j : Nat) t v, Tryd.f5.params[j]? = some t → args[j]? = some v → Value.okWide Tryd.prog W .any base t v := hval0
  have hW' := hW
  obtain ⟨p, q, hA0, hV, rfl, _, _⟩ := hW
  have hA : DataW.TrodAll enc Tryd.prog W 0 (fun _ => true) true Tryd.f5.params.toList args.toList ds p := hA0
  rw [Tryd.params5] at hA hval hsz
  obtain ⟨v0, v1, d0, d1, p0, p1, rfl, rfl, rfl, h0, h1⟩ := trodAll_two hA
  obtain ⟨rfl, rfl⟩ := trodVars_none hV
  have hk0 := h0
  have hlt0 : ∀ x ∈ p0, x.block < W.heap.size := fun x hx => by simpa using hW'.lt x (by simp [hx])
  have hz0 : Sz Tryd.prog 25 d0 := fun z hz => of_decide_eq_true (List.all_eq_true.1 hsz _ (DataW.weights_mem_each (j := 0) (t := 25) rfl rfl z hz))
  obtain ⟨n0, hn0, hw0⟩ : ∃ n : NodeD, NodeIs W n v0 ∧ n.WF := by
    obtain ⟨cs, rfl, _⟩ := okWide_struct (show Tryd.prog.underlying 25 = some (.struct (Tryd.prog.fieldsOf 25)) by kernel_rfl) (hval 0 25 v0 rfl rfl)
    obtain ⟨fuel, hf⟩ := h0
    obtain ⟨n, hn, hw⟩ := open_node fuel _ _ hf hz0
    exact ⟨n, by simpa [Value.cells] using hn, hw⟩
  obtain ⟨pa0, ca0, pk0, ck0, rfl⟩ := node_form hn0
  have hk1 := h1
  have hlt1 : ∀ x ∈ p1, x.block < W.heap.size := fun x hx => by simpa using hW'.lt x (by simp [hx])
  have hz1 : Sz Tryd.prog 25 d1 := fun z hz => of_decide_eq_true (List.all_eq_true.1 hsz _ (DataW.weights_mem_each (j := 1) (t := 25) rfl rfl z hz))
  obtain ⟨n1, hn1, hw1⟩ : ∃ n : NodeD, NodeIs W n v1 ∧ n.WF := by
    obtain ⟨cs, rfl, _⟩ := okWide_struct (show Tryd.prog.underlying 25 = some (.struct (Tryd.prog.fieldsOf 25)) by kernel_rfl) (hval 1 25 v1 rfl rfl)
    obtain ⟨fuel, hf⟩ := h1
    obtain ⟨n, hn, hw⟩ := open_node fuel _ _ hf hz1
    exact ⟨n, by simpa [Value.cells] using hn, hw⟩
  obtain ⟨pa1, ca1, pk1, ck1, rfl⟩ := node_form hn1
  simp only [List.append_nil] at hW'
  refine (walk_WrInj n0 n1 pa0 ca0 pk0 ck0 pa1 ca1 pk1 ck1 W (tabs_of_laid hL) hn0 hn1 hw0 hw1 ).mono fun e W' ⟨he, hb⟩ => ?_
  subst he
  exact ⟨_, rfl, _, _, _, [], _, [], hW', trodAll_mk1 (shut_bool Tryd.underlying4 _), trodAll_mk2 (Below.trod laidOutN (by kernel_rfl) (of_decide_eq_true (by kernel_rfl)) hk0 hb hlt0) (Below.trod laidOutN (by kernel_rfl) (of_decide_eq_true (by kernel_rfl)) hk1 hb hlt1), rfl, hb.frame _, fun h => by cases h⟩
theorem said_XmlwriteIsInjective : Rows.XmlwriteIsInjectiveSaid :=
  OpenClaim.holds_of_wide 5 Tryd.f5 rfl rfl rfl rfl rfl rfl rfl ⟨rfl, rfl, rfl, rfl, rfl⟩ rfl rfl rfl rfl rfl (by kernel_rfl) Tryd.func5 (by kernel_rfl)
    (of_decide_eq_true (by kernel_rfl)) (by unfold Func.isWrapper; first | (rw [if_pos (by decide +kernel)]; kernel_rfl) | (rw [if_neg (by decide +kernel)]; exact ⟨rfl, rfl⟩))
    (fun os started H enc _ => lifted_XmlwriteIsInjective os started H enc)
theorem plain_XmlwriteIsInjective (f : FuncId) (fn : Func) (hf : Tryd.pinned.checked.prog.funcNamed "feedvault/feedvaultlaw09.XmlwriteIsInjective" = some f) (hfn : Tryd.pinned.checked.prog.funcs[f]? = some fn) :
    false = Tryd.pinned.checked.prog.looks [] ∧ ∀ (j : Nat) t, fn.params[j]? = some t → Tryd.pinned.checked.prog.wantsStandIn t = false := by
  obtain rfl : f = 5 := Option.some.inj ((show Tryd.prog.funcNamed "feedvault/feedvaultlaw09.XmlwriteIsInjective" = some 5 by kernel_rfl).symm.trans hf) |>.symm
  obtain rfl : fn = Tryd.f5 := (Option.some.inj (Tryd.func5.symm.trans hfn)).symm
  refine ⟨by kernel_rfl, fun j t ht => ?_⟩
  rw [Tryd.params5] at ht
  have hm : t ∈ [25, 25] := by simpa using Array.mem_of_getElem? ht
  have hall : ([25, 25].all fun u => !Tryd.prog.wantsStandIn u) = true := by kernel_rfl
  exact (show Tryd.prog.wantsStandIn t = false by simpa using List.all_eq_true.1 hall t hm)
theorem card_XmlwriteIsInjective : Rows.XmlwriteIsInjectiveCardSaid :=
  Claim7.holds_tied_plain_at .later [] _ _ _ _ said_XmlwriteIsInjective (fun _ h => by cases h) (by kernel_rfl) (fun _ h => by cases h) xmlwriteIsInjective_row_tie rfl ⟨rfl, rfl⟩ (by kernel_rfl) rfl plain_XmlwriteIsInjective (by kernel_rfl)
end Go.Proofs.YtppmoeidgefkpaaDoor
end
