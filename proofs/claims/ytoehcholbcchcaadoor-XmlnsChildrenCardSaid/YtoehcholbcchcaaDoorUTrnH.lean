/- Packed from the texts TrnH. -/
import Derived.Test.YtoehcholbcchcaaDoorUNsCw
import Derived.Test.YtoehcholbcchcaaDoorUNsX
import Derived.Test.YtoehcholbcchcaaDoorURfcW
import Derived.Test.YtoehcholbcchcaaDoorUTrfO
import Derived.Test.YtoehcholbcchcaaDoorCards
import Derived.Test.YtoehcholbcchcaaDoorTie
import Derived.ProofKit
import Derived.OpenShut
import Derived.SliceStrings
import Derived.SizedLaws
import Derived.Lay
import Derived.LaidOnce
import Derived.SevenTiedAt
section
namespace Go.Proofs.YtoehcholbcchcaaDoor
open Go.RowKit Go.Lib Go.ChangeShapes Go.WideShapes Go.ChangeAt
open Go.ChangeMaps (open_string shut_string)
theorem ownNH : ownKnob Tryd.prog.godebug = none := by kernel_rfl
theorem laidOutN : laidOutB Tryd.prog = true := by kernel_rfl
set_option maxRecDepth 100000 in
theorem lifted_XmlnsChildren (os : Os) (started : os.Started) (H : Type) (enc : TypeId × Value → H) :
    ReturnsInHanded {} Tryd.checked os 8 .any (fun w args => (Rows.xmlnsChildrenSpec.pre enc Tryd.prog Tryd.f8 [] false w args ∧ laidMetH Tryd.prog laid1 w) ∧ sizedMet enc Tryd.prog Tryd.f8 (OpenSpec.ofChange Rows.xmlnsChildrenSpec) false w args)
      (Rows.xmlnsChildrenSpec.post enc Tryd.prog Tryd.f8 false true false false) := by
  refine handed_sized (C := Tryd.checked) (X := laidMetH Tryd.prog laid1) ownNH started (by kernel_rfl) Tryd.func8 (fun _ _ hh h => h.of_heap hh)
    (ChangeSpec.witness_shaped (enc := enc) (C := Tryd.checked) (os := os) (X := fun w _ => laidMetH Tryd.prog laid1 w) false (World.laidAll Tryd.prog os laid1) #[.agg #[.int .i64 0, .string ⟨#[]⟩, .string ⟨#[]⟩, .slice none 0 0, .slice none 0 0, .string ⟨#[]⟩, .int .i64 0], .string ⟨#[]⟩, .string ⟨#[]⟩] 8 (World.laidAll_os _ _ _)
      (World.shaped_of_ZipB (by kernel_rfl) (by kernel_rfl)) (by kernel_rfl) (by kernel_rfl) (by kernel_rfl)
      (by rw [MakeChecks.laidMetH_plain _ _ _ (by kernel_rfl)]; exact laidMet_laidAll _ (by kernel_rfl) (by kernel_rfl))) ?_
  intro W base args ds gs before hval0 hW hsz hsh hL
  have hval : ∀ (j : Nat) t v, Tryd.f8.params[j]? = some t → args[j]? = some v → Value.okWide Tryd.prog W .any base t v := hval0
  have hW' := hW
  obtain ⟨p, q, hA0, hV, rfl, _, _⟩ := hW
  have hA : DataW.TrodAll enc Tryd.prog W 0 (fun _ => true) true Tryd.f8.params.toList args.toList ds p := hA0
  rw [Tryd.params8] at hA hval hsz
  obtain ⟨v0, v1, v2, d0, d1, d2, p0, p1, p2, rfl, rfl, rfl, h0, h1, h2⟩ := trodAll_three hA
  obtain ⟨rfl, rfl⟩ := trodVars_none hV
  have hk0 := h0
  have hlt0 : ∀ x ∈ p0, x.block < W.heap.size := fun x hx => by simpa using hW'.lt x (by simp [hx])
  have hz0 : Sz Tryd.prog 29 d0 := fun z hz => of_decide_eq_true (List.all_eq_true.1 hsz _ (DataW.weights_mem_each (j := 0) (t := 29) rfl rfl z hz))
  obtain ⟨n0, hn0, hw0⟩ : ∃ n : NodeD, NodeIs W n v0 ∧ n.WF := by
    obtain ⟨cs, rfl, _⟩ := okWide_struct (show Tryd.prog.underlying 29 = some (.struct (Tryd.prog.fieldsOf 29)) by kernel_rfl) (hval 0 29 v0 rfl rfl)
    obtain ⟨fuel, hf⟩ := h0
    obtain ⟨n, hn, hw⟩ := open_node fuel _ _ hf hz0
    exact ⟨n, by simpa [Value.cells] using hn, hw⟩
  obtain ⟨pa0, ca0, pk0, ck0, rfl⟩ := node_form hn0
  obtain ⟨s1, rfl, rfl, rfl, ws1⟩ := open_string Tryd.underlying9 (hval 1 9 v1 rfl rfl) h1
  have r1 : s1.size ≤ 140737488351232 := by
    have h := List.all_eq_true.1 hsz _ (DataW.weights_mem_each (j := 1) (t := 9) rfl rfl s1.data.toList.length (by simp [DataW.weights]))
    have h2 : s1.data.toList.length = s1.size := by simp
    rw [h2] at h
    exact of_decide_eq_true h
  obtain ⟨s2, rfl, rfl, rfl, ws2⟩ := open_string Tryd.underlying9 (hval 2 9 v2 rfl rfl) h2
  have r2 : s2.size ≤ 140737488351232 := by
    have h := List.all_eq_true.1 hsz _ (DataW.weights_mem_each (j := 2) (t := 9) rfl rfl s2.data.toList.length (by simp [DataW.weights]))
    have h2 : s2.data.toList.length = s2.size := by simp
    rw [h2] at h
    exact of_decide_eq_true h
  simp only [List.append_nil] at hW'
  refine (walk_NsChildren n0 pa0 ca0 pk0 ck0 s1 s2 W (nsT_of_laid hL hsh) hn0 hw0 ).mono fun e W' ⟨he, hb⟩ => ?_
  subst he
  exact ⟨_, rfl, _, _, _, [], _, [], hW', trodAll_mk1 (shut_bool Tryd.underlying4 _), trodAll_mk3 (Below.trod laidOutN (by kernel_rfl) (of_decide_eq_true (by kernel_rfl)) hk0 hb hlt0) (shut_string Tryd.underlying9 ws1) (shut_string Tryd.underlying9 ws2), rfl, hb.frame _, fun h => by cases h⟩
theorem said_XmlnsChildren : Rows.XmlnsChildrenSaid :=
  OpenClaim.holds_of_wide 8 Tryd.f8 rfl rfl rfl rfl rfl rfl rfl ⟨rfl, rfl, rfl, rfl, rfl⟩ rfl rfl rfl rfl rfl (by kernel_rfl) Tryd.func8 (by kernel_rfl)
    (of_decide_eq_true (by kernel_rfl)) (by unfold Func.isWrapper; first | (rw [if_pos (by decide +kernel)]; kernel_rfl) | (rw [if_neg (by decide +kernel)]; exact ⟨rfl, rfl⟩))
    (fun os started H enc _ => lifted_XmlnsChildren os started H enc)
theorem plain_XmlnsChildren (f : FuncId) (fn : Func) (hf : Tryd.pinned.checked.prog.funcNamed "feedvault/feedvaultlaw08.XmlnsChildren" = some f) (hfn : Tryd.pinned.checked.prog.funcs[f]? = some fn) :
    false = Tryd.pinned.checked.prog.looks [] ∧ ∀ (j : Nat) t, fn.params[j]? = some t → Tryd.pinned.checked.prog.wantsStandIn t = false := by
  obtain rfl : f = 8 := Option.some.inj ((show Tryd.prog.funcNamed "feedvault/feedvaultlaw08.XmlnsChildren" = some 8 by kernel_rfl).symm.trans hf) |>.symm
  obtain rfl : fn = Tryd.f8 := (Option.some.inj (Tryd.func8.symm.trans hfn)).symm
  refine ⟨by kernel_rfl, fun j t ht => ?_⟩
  rw [Tryd.params8] at ht
  have hm : t ∈ [29, 9, 9] := by simpa using Array.mem_of_getElem? ht
  have hall : ([29, 9, 9].all fun u => !Tryd.prog.wantsStandIn u) = true := by kernel_rfl
  exact (show Tryd.prog.wantsStandIn t = false by simpa using List.all_eq_true.1 hall t hm)
theorem card_XmlnsChildren : Rows.XmlnsChildrenCardSaid :=
  Claim7.holds_tied_plain_at .later [] _ _ _ _ said_XmlnsChildren (fun _ h => by cases h) (by kernel_rfl) (fun _ h => by cases h) xmlnsChildren_row_tie rfl ⟨rfl, rfl⟩ (by kernel_rfl) rfl plain_XmlnsChildren (by kernel_rfl)
end Go.Proofs.YtoehcholbcchcaaDoor
end
