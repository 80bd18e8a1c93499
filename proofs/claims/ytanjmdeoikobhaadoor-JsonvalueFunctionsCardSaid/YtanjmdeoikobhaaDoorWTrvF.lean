/- Packed from the texts TrvF. -/
import Derived.Test.YtanjmdeoikobhaaDoorWJvX
import Derived.Test.YtanjmdeoikobhaaDoorWJzF
import Derived.Test.YtanjmdeoikobhaaDoorWJzO
import Derived.Test.YtanjmdeoikobhaaDoorCards
import Derived.Test.YtanjmdeoikobhaaDoorTie
import Derived.ProofKit
import Derived.OpenShut
import Derived.SliceStrings
import Derived.SizedLaws
import Derived.Lay
import Derived.LaidOnce
import Derived.SevenTiedAt
section
namespace Go.Proofs.YtanjmdeoikobhaaDoor
open Go.RowKit Go.Lib Go.ChangeShapes Go.WideShapes Go.ChangeAt
open Go.ChangeMaps (open_string shut_string)
theorem ownVF : ownKnob Tryd.prog.godebug = none := by kernel_rfl
theorem laidOutN : laidOutB Tryd.prog = true := by kernel_rfl
set_option maxRecDepth 100000 in
theorem lifted_JsonvalueFunctions (os : Os) (started : os.Started) (H : Type) (enc : TypeId × Value → H) :
    ReturnsInHanded {} Tryd.checked os 3 .any (fun w args => (Rows.jsonvalueFunctionsSpec.pre enc Tryd.prog Tryd.f3 [] false w args ∧ laidMetH Tryd.prog jsLaid w) ∧ sizedMet enc Tryd.prog Tryd.f3 (OpenSpec.ofChange Rows.jsonvalueFunctionsSpec) false w args)
      (Rows.jsonvalueFunctionsSpec.post enc Tryd.prog Tryd.f3 false true false false) := by
  refine returnsInHanded_of_change_and (C := Tryd.checked) (X := fun w _ => laidMetH Tryd.prog jsLaid w) (fun _ _ _ hh h => h.of_heap hh) ownVF started (by kernel_rfl) Tryd.func3
    (ChangeSpec.witness_shaped (enc := enc) (C := Tryd.checked) (os := os) (X := fun w _ => laidMetH Tryd.prog jsLaid w) false (World.laidAll Tryd.prog os jsLaid) #[.agg #[.int .i64 0, .bool false, .int .i64 0, .string ⟨#[]⟩, .slice none 0 0, .slice none 0 0, .int .i64 0], .agg #[.int .i64 0, .bool false, .int .i64 0, .string ⟨#[]⟩, .slice none 0 0, .slice none 0 0, .int .i64 0], .string ⟨#[]⟩] 8 (World.laidAll_os _ _ _)
      (World.shaped_of_ZipB (by kernel_rfl) (by kernel_rfl)) (by kernel_rfl) (by kernel_rfl) (by kernel_rfl)
      (by rw [MakeChecks.laidMetH_plain _ _ _ (by kernel_rfl)]; exact laidMet_laidAll _ (by kernel_rfl) (by kernel_rfl))) ?_
  intro W base args ds gs before hval0 hW _ hsz hL _
  have hval : ∀ (j : Nat) t v, Tryd.f3.params[j]? = some t → args[j]? = some v → Value.okWide Tryd.prog W .any base t v := hval0
  have hW' := hW
  obtain ⟨p, q, hA0, hV, rfl, _, _⟩ := hW
  have hA : DataW.TrodAll enc Tryd.prog W 0 (fun _ => true) true Tryd.f3.params.toList args.toList ds p := hA0
  rw [Tryd.params3] at hA hval hsz
  obtain ⟨v0, v1, v2, d0, d1, d2, p0, p1, p2, rfl, rfl, rfl, h0, h1, h2⟩ := trodAll_three hA
  obtain ⟨rfl, rfl⟩ := trodVars_none hV
  have hk0 := h0
  have hlt0 : ∀ x ∈ p0, x.block < W.heap.size := fun x hx => by simpa using hW'.lt x (by simp [hx])
  have hz0 : Sj Tryd.prog 25 d0 := fun z hz => of_decide_eq_true (List.all_eq_true.1 hsz _ (DataW.weights_mem_each (j := 0) (t := 25) rfl rfl z hz))
  obtain ⟨n0, hn0, hw0⟩ : ∃ n : ValD, ValIs W n v0 ∧ n.WF := by
    obtain ⟨cs, rfl, _⟩ := okWide_struct (show Tryd.prog.underlying 25 = some (.struct (Tryd.prog.fieldsOf 25)) by kernel_rfl) (hval 0 25 v0 rfl rfl)
    obtain ⟨fuel, hf⟩ := h0
    obtain ⟨n, hn, hw⟩ := open_val fuel _ _ hf hz0
    exact ⟨n, by simpa [Value.cells] using hn, hw⟩
  obtain ⟨pa0, ca0, pk0, ck0, rfl⟩ := jval_form hn0
  have hk1 := h1
  have hlt1 : ∀ x ∈ p1, x.block < W.heap.size := fun x hx => by simpa using hW'.lt x (by simp [hx])
  have hz1 : Sj Tryd.prog 25 d1 := fun z hz => of_decide_eq_true (List.all_eq_true.1 hsz _ (DataW.weights_mem_each (j := 1) (t := 25) rfl rfl z hz))
  obtain ⟨n1, hn1, hw1⟩ : ∃ n : ValD, ValIs W n v1 ∧ n.WF := by
    obtain ⟨cs, rfl, _⟩ := okWide_struct (show Tryd.prog.underlying 25 = some (.struct (Tryd.prog.fieldsOf 25)) by kernel_rfl) (hval 1 25 v1 rfl rfl)
    obtain ⟨fuel, hf⟩ := h1
    obtain ⟨n, hn, hw⟩ := open_val fuel _ _ hf hz1
    exact ⟨n, by simpa [Value.cells] using hn, hw⟩
  obtain ⟨pa1, ca1, pk1, ck1, rfl⟩ := jval_form hn1
  obtain ⟨s2, rfl, rfl, rfl, ws2⟩ := open_string Tryd.underlying9 (hval 2 9 v2 rfl rfl) h2
  have r2 : s2.size ≤ 140737488351232 := by
    have h := List.all_eq_true.1 hsz _ (DataW.weights_mem_each (j := 2) (t := 9) rfl rfl s2.data.toList.length (by simp [DataW.weights]))
    have h2 : s2.data.toList.length = s2.size := by simp
    rw [h2] at h
    exact of_decide_eq_true h
  simp only [List.append_nil] at hW'
  refine (walk_JvFunctions n0 n1 s2 pa0 ca0 pk0 ck0 pa1 ca1 pk1 ck1 W (jvT_of_laid hL) hn0 hn1 hw0 hw1 ).mono fun e W' ⟨he, hb⟩ => ?_
  subst he
  exact ⟨_, rfl, _, _, _, [], _, [], hW', trodAll_mk1 (shut_bool Tryd.underlying4 _), trodAll_mk3 (Below.trod laidOutN (by kernel_rfl) (of_decide_eq_true (by kernel_rfl)) hk0 hb hlt0) (Below.trod laidOutN (by kernel_rfl) (of_decide_eq_true (by kernel_rfl)) hk1 hb hlt1) (shut_string Tryd.underlying9 ws2), rfl, hb.frame _, fun h => by cases h⟩
theorem said_JsonvalueFunctions : Rows.JsonvalueFunctionsSaid :=
  OpenClaim.holds_of_wide 3 Tryd.f3 rfl rfl rfl rfl rfl rfl rfl ⟨rfl, rfl, rfl, rfl, rfl⟩ rfl rfl rfl rfl rfl (by kernel_rfl) Tryd.func3 (by kernel_rfl)
    (of_decide_eq_true (by kernel_rfl)) (by unfold Func.isWrapper; first | (rw [if_pos (by decide +kernel)]; kernel_rfl) | (rw [if_neg (by decide +kernel)]; exact ⟨rfl, rfl⟩))
    (fun os started H enc _ => lifted_JsonvalueFunctions os started H enc)
theorem plain_JsonvalueFunctions (f : FuncId) (fn : Func) (hf : Tryd.pinned.checked.prog.funcNamed "feedvault/feedvaultlaw11.JsonvalueFunctions" = some f) (hfn : Tryd.pinned.checked.prog.funcs[f]? = some fn) :
    true = Tryd.pinned.checked.prog.looks [] ∧ ∀ (j : Nat) t, fn.params[j]? = some t → Tryd.pinned.checked.prog.wantsStandIn t = false := by
  obtain rfl : f = 3 := Option.some.inj ((show Tryd.prog.funcNamed "feedvault/feedvaultlaw11.JsonvalueFunctions" = some 3 by kernel_rfl).symm.trans hf) |>.symm
  obtain rfl : fn = Tryd.f3 := (Option.some.inj (Tryd.func3.symm.trans hfn)).symm
  refine ⟨by kernel_rfl, fun j t ht => ?_⟩
  rw [Tryd.params3] at ht
  have hm : t ∈ [25, 25, 9] := by simpa using Array.mem_of_getElem? ht
  have hall : ([25, 25, 9].all fun u => !Tryd.prog.wantsStandIn u) = true := by kernel_rfl
  exact (show Tryd.prog.wantsStandIn t = false by simpa using List.all_eq_true.1 hall t hm)
theorem card_JsonvalueFunctions : Rows.JsonvalueFunctionsCardSaid :=
  Claim7.holds_tied_plain_at .later [] _ _ _ _ said_JsonvalueFunctions (fun _ h => by cases h) (by kernel_rfl) (fun _ h => by cases h) jsonvalueFunctions_row_tie rfl ⟨rfl, rfl⟩ (by kernel_rfl) rfl plain_JsonvalueFunctions (by kernel_rfl)
end Go.Proofs.YtanjmdeoikobhaaDoor
end
