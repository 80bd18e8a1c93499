/- Packed from the texts TrvN. -/
import Derived.Test.YtanjmdeoikobhaaDoorXJvX
import Derived.Test.YtanjmdeoikobhaaDoorXJzN
import Derived.Test.YtanjmdeoikobhaaDoorCards
import Derived.Test.YtanjmdeoikobhaaDoorTie
import Derived.ProofKit
import Derived.OpenShut
import Derived.ChangeSlices
import Derived.SliceStrings
import Derived.SizedLaws
import Derived.Lay
import Derived.LaidOnce
import Derived.SevenTiedAt
section
namespace Go.Proofs.YtanjmdeoikobhaaDoor
open Go.RowKit Go.Lib Go.ChangeShapes Go.WideShapes Go.ChangeAt
open Go.ChangeMaps (open_string shut_string)
theorem ownVN : ownKnob Tryd.prog.godebug = none := by kernel_rfl
theorem laidOutN : laidOutB Tryd.prog = true := by kernel_rfl
section
variable {H : Type} {enc : TypeId × Value → H} {w : World} {base : Nat} {spare : Nat → Bool} {held : Bool}
theorem open_u8s {fuel : Nat} {v : Value} {x : DataW H × List MemPlace} (h : DataW.trod enc Tryd.prog w base spare held fuel 39 [v] = some x) : ∃ p c zs, v = .slice p (List.length zs) c ∧ BAt w p zs ∧ ∀ z ∈ zs, 0 ≤ z ∧ z ≤ 255 := by
  rcases Go.ChangeShapes.open_ints (k := .u8) (show Tryd.prog.underlying 39 = some (.slice 5) by kernel_rfl) Tryd.underlying5 (by kernel_rfl) h with ⟨hcs, -⟩ | ⟨a, len, cap, zs, hcs, -, hl, -, hz, -, hcell, hwf⟩
  · cases hcs
    exact ⟨none, 0, [], rfl, fun i hi => absurd hi (Nat.not_lt_zero _), fun z hz => by cases hz⟩
  · cases hcs
    have hlen : len ≤ zs.length := by rw [hz]; split <;> omega
    refine ⟨some a, cap, zs.take len, by rw [List.length_take, Nat.min_eq_left hlen], fun i hi => ⟨a, rfl, ?_⟩, fun z hz' => ?_⟩
    · have hi' : i < zs.length := by rw [List.length_take] at hi; omega
      rw [hcell i hi', List.getElem_take, List.getD_eq_getElem?_getD, List.getElem?_eq_getElem hi']
      rfl
    · have := hwf z (List.mem_of_mem_take hz')
      simpa [Lit.wf, IntKind.min, IntKind.max, IntKind.signed, IntKind.bits] using this
end
set_option maxRecDepth 100000 in
theorem lifted_JsonvalueNumbers (os : Os) (started : os.Started) (H : Type) (enc : TypeId × Value → H) :
    ReturnsInHanded {} Tryd.checked os 5 .any (fun w args => (Rows.jsonvalueNumbersSpec.pre enc Tryd.prog Tryd.f5 [] false w args ∧ laidMetH Tryd.prog jsLaid w) ∧ sizedMet enc Tryd.prog Tryd.f5 (OpenSpec.ofChange Rows.jsonvalueNumbersSpec) false w args)
      (Rows.jsonvalueNumbersSpec.post enc Tryd.prog Tryd.f5 false true false false) := by
  refine returnsInHanded_of_change_and (C := Tryd.checked) (X := fun w _ => laidMetH Tryd.prog jsLaid w) (fun _ _ _ hh h => h.of_heap hh) ownVN started (by kernel_rfl) Tryd.func5
    (ChangeSpec.witness_shaped (enc := enc) (C := Tryd.checked) (os := os) (X := fun w _ => laidMetH Tryd.prog jsLaid w) false (World.laidAll Tryd.prog os jsLaid) #[.slice none 0 0, .bool false] 8 (World.laidAll_os _ _ _)
      (World.shaped_of_ZipB (by kernel_rfl) (by kernel_rfl)) (by kernel_rfl) (by kernel_rfl) (by kernel_rfl)
      (by rw [MakeChecks.laidMetH_plain _ _ _ (by kernel_rfl)]; exact laidMet_laidAll _ (by kernel_rfl) (by kernel_rfl))) ?_
  intro W base args ds gs before hval0 hW _ _ hL _
  have hval : ∀ (j : Nat) t v, Tryd.f5.params[j]? = some t → args[j]? = some v → Value.okWide Tryd.prog W .any base t v := hval0
  have hW' := hW
  obtain ⟨p, q, hA0, hV, rfl, _, _⟩ := hW
  have hA : DataW.TrodAll enc Tryd.prog W 0 (fun _ => true) true Tryd.f5.params.toList args.toList ds p := hA0
  rw [Tryd.params5] at hA hval
  obtain ⟨v0, v1, d0, d1, p0, p1, rfl, rfl, rfl, h0, h1⟩ := trodAll_two hA
  obtain ⟨rfl, rfl⟩ := trodVars_none hV
  have hk0 := h0
  have hlt0 : ∀ x ∈ p0, x.block < W.heap.size := fun x hx => by simpa using hW'.lt x (by simp [hx])
  obtain ⟨pk0, ck0, z0, rfl, hZ0, hb0⟩ : ∃ p c zs, v0 = .slice p (List.length zs) c ∧ BAt W p zs ∧ ∀ z ∈ zs, 0 ≤ z ∧ z ≤ 255 := by
    obtain ⟨a, len, cap, rfl⟩ := okWide_slice (show Tryd.prog.underlying 39 = some (.slice 5) by kernel_rfl) (hval 0 39 v0 rfl rfl)
    obtain ⟨fuel, hf⟩ := h0
    exact open_u8s hf
  obtain ⟨x1, rfl, rfl, rfl⟩ := open_bool Tryd.underlying4 (hval 1 4 v1 rfl rfl) h1
  simp only [List.append_nil] at hW'
  refine (walk_JvNumbers z0 pk0 ck0 x1 W (jvT_of_laid hL) hZ0 hb0).mono fun e W' ⟨he, hb⟩ => ?_
  subst he
  exact ⟨_, rfl, _, _, _, [], _, [], hW', trodAll_mk1 (shut_bool Tryd.underlying4 _), trodAll_mk2 (Below.trod laidOutN (by kernel_rfl) (of_decide_eq_true (by kernel_rfl)) hk0 hb hlt0) (shut_bool Tryd.underlying4 _), rfl, hb.frame _, fun h => by cases h⟩
theorem said_JsonvalueNumbers : Rows.JsonvalueNumbersSaid :=
  OpenClaim.holds_of_wide 5 Tryd.f5 rfl rfl rfl rfl rfl rfl rfl ⟨rfl, rfl, rfl, rfl, rfl⟩ rfl rfl rfl rfl rfl (by kernel_rfl) Tryd.func5 (by kernel_rfl)
    (of_decide_eq_true (by kernel_rfl)) (by unfold Func.isWrapper; first | (rw [if_pos (by decide +kernel)]; kernel_rfl) | (rw [if_neg (by decide +kernel)]; exact ⟨rfl, rfl⟩))
    (fun os started H enc _ => lifted_JsonvalueNumbers os started H enc)
theorem plain_JsonvalueNumbers (f : FuncId) (fn : Func) (hf : Tryd.pinned.checked.prog.funcNamed "feedvault/feedvaultlaw11.JsonvalueNumbers" = some f) (hfn : Tryd.pinned.checked.prog.funcs[f]? = some fn) :
    true = Tryd.pinned.checked.prog.looks [] ∧ ∀ (j : Nat) t, fn.params[j]? = some t → Tryd.pinned.checked.prog.wantsStandIn t = false := by
  obtain rfl : f = 5 := Option.some.inj ((show Tryd.prog.funcNamed "feedvault/feedvaultlaw11.JsonvalueNumbers" = some 5 by kernel_rfl).symm.trans hf) |>.symm
  obtain rfl : fn = Tryd.f5 := (Option.some.inj (Tryd.func5.symm.trans hfn)).symm
  refine ⟨by kernel_rfl, fun j t ht => ?_⟩
  rw [Tryd.params5] at ht
  have hm : t ∈ [39, 4] := by simpa using Array.mem_of_getElem? ht
  have hall : ([39, 4].all fun u => !Tryd.prog.wantsStandIn u) = true := by kernel_rfl
  exact (show Tryd.prog.wantsStandIn t = false by simpa using List.all_eq_true.1 hall t hm)
theorem card_JsonvalueNumbers : Rows.JsonvalueNumbersCardSaid :=
  Claim7.holds_tied_plain_at .later [] _ _ _ _ said_JsonvalueNumbers (fun _ h => by cases h) (by kernel_rfl) (fun _ h => by cases h) jsonvalueNumbers_row_tie rfl ⟨rfl, rfl⟩ (by kernel_rfl) rfl plain_JsonvalueNumbers (by kernel_rfl)
end Go.Proofs.YtanjmdeoikobhaaDoor
end
