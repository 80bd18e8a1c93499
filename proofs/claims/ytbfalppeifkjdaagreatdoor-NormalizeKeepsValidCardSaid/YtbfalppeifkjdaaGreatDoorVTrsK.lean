/- Laws, for every input and whatever the memory: each returns true and leaves its arguments as they were, where the listed tables hold what the program's text lays. Proved: NormalizeKeepsValid. -/
import Derived.Test.YtbfalppeifkjdaaGreatDoorVNnV
import Derived.Test.YtbfalppeifkjdaaGreatDoorVk4
import Derived.Test.YtbfalppeifkjdaaGreatDoorVm8
import Derived.Test.YtbfalppeifkjdaaGreatDoorCards
import Derived.Test.YtbfalppeifkjdaaGreatDoorTie
import Derived.ProofKit
import Derived.OpenShut
import Derived.SliceStrings
import Derived.SizedLaws
import Derived.Lay
import Derived.LaidOnce
import Derived.SevenTiedAt
section
namespace Go.Proofs.YtbfalppeifkjdaaGreatDoor
open Go.RowKit Go.Lib Go.ChangeShapes Go.WideShapes Go.ChangeAt
open Go.ChangeMaps (open_string shut_string)
theorem ownSK : ownKnob Tryz.prog.godebug = none := by kernel_rfl
theorem laidOutN : laidOutB Tryz.prog = true := by kernel_rfl
set_option maxRecDepth 100000 in
theorem lifted_NormalizeKeepsValid (os : Os) (started : os.Started) (H : Type) (enc : TypeId × Value → H) :
    ReturnsInHanded {} Tryz.checked os 6 .any (fun w args => (Rows.normalizeKeepsValidSpec.pre enc Tryz.prog Tryz.f6 [] false w args ∧ laidMetH Tryz.prog n14Laid w) ∧ sizedMet enc Tryz.prog Tryz.f6 (OpenSpec.ofChange Rows.normalizeKeepsValidSpec) false w args)
      (Rows.normalizeKeepsValidSpec.post enc Tryz.prog Tryz.f6 false true false false) := by
  refine returnsInHanded_of_change_and (C := Tryz.checked) (X := fun w _ => laidMetH Tryz.prog n14Laid w) (fun _ _ _ hh h => h.of_heap hh) ownSK started (by kernel_rfl) Tryz.func6
    (ChangeSpec.witness_shaped (enc := enc) (C := Tryz.checked) (os := os) (X := fun w _ => laidMetH Tryz.prog n14Laid w) false (World.laidAll Tryz.prog os n14Laid) #[.agg #[.slice none 0 0]] 8 (World.laidAll_os _ _ _)
      (World.shaped_of_ZipB (by kernel_rfl) (by kernel_rfl)) (by kernel_rfl) (by kernel_rfl) (by kernel_rfl)
      (by rw [MakeChecks.laidMetH_plain _ _ _ (by kernel_rfl)]; exact laidMet_laidAll _ (by kernel_rfl) (by kernel_rfl))) ?_
  intro W base args ds gs before hval0 hW _ hsz hL _
  have hval : ∀ (j : Nat) t v, Tryz.f6.params[j]? = some t → args[j]? = some v → Value.okWide Tryz.prog W .any base t v := hval0
  have hW' := hW
  obtain ⟨p, q, hA0, hV, rfl, _, _⟩ := hW
  have hA : DataW.TrodAll enc Tryz.prog W 0 (fun _ => true) true Tryz.f6.params.toList args.toList ds p := hA0
  rw [Tryz.params6] at hA hval hsz
  obtain ⟨v0, d0, rfl, rfl, h0⟩ := trodAll_one hA
  obtain ⟨rfl, rfl⟩ := trodVars_none hV
  obtain ⟨p0, rfl⟩ : ∃ p0, p0 = p := ⟨_, rfl⟩
  have hk0 := h0
  have hlt0 : ∀ x ∈ p0, x.block < W.heap.size := fun x hx => by simpa using hW'.lt x (by simp [hx])
  have hz0 : Sj Tryz.prog 46 d0 := fun z hz => of_decide_eq_true (List.all_eq_true.1 hsz _ (DataW.weights_mem_each (j := 0) (t := 46) rfl rfl z hz))
  obtain ⟨l0, pk0, ck0, rfl, hA0, hl0, hO0⟩ : ∃ (l : List FeedD) (p : Option Addr) (c : Nat), v0 = .agg #[.slice p l.length c] ∧ FeedsAt W p l ∧ l.length ≤ 140737488351232 ∧ ∀ f ∈ l, FOpn f := by
    obtain ⟨cs, rfl, _⟩ := okWide_struct (show Tryz.prog.underlying 46 = some (.struct (Tryz.prog.fieldsOf 46)) by kernel_rfl) (hval 0 46 v0 rfl rfl)
    obtain ⟨fuel, hf⟩ := h0
    obtain ⟨p, c, l, hc, h1, h2, h3⟩ := nopen_arch hf hz0
    exact ⟨l, p, c, congrArg Value.agg (Array.toList_inj.1 (by simpa [Value.cells] using hc)), h1, h2, h3⟩
  simp only [List.append_nil] at hW'
  refine (walk_NKeeps l0 pk0 ck0 W hA0 hO0 hl0 (n14T_of_laid hL)).mono fun e W' ⟨he, hb⟩ => ?_
  subst he
  exact ⟨_, rfl, _, _, _, [], _, [], hW', trodAll_mk1 (shut_bool Tryz.underlying4 _), trodAll_mk1 (Below.trod laidOutN (by kernel_rfl) (of_decide_eq_true (by kernel_rfl)) hk0 hb hlt0), rfl, hb.frame _, fun h => by cases h⟩
theorem said_NormalizeKeepsValid : Rows.NormalizeKeepsValidSaid :=
  OpenClaim.holds_of_wide 6 Tryz.f6 rfl rfl rfl rfl rfl rfl rfl ⟨rfl, rfl, rfl, rfl, rfl⟩ rfl rfl rfl rfl rfl (by kernel_rfl) Tryz.func6 (by kernel_rfl)
    (of_decide_eq_true (by kernel_rfl)) (by unfold Func.isWrapper; first | (rw [if_pos (by decide +kernel)]; kernel_rfl) | (rw [if_neg (by decide +kernel)]; exact ⟨rfl, rfl⟩))
    (fun os started H enc _ => lifted_NormalizeKeepsValid os started H enc)
theorem plain_NormalizeKeepsValid (f : FuncId) (fn : Func) (hf : Tryz.pinned.checked.prog.funcNamed "feedvault/feedvaultlaw14.NormalizeKeepsValid" = some f) (hfn : Tryz.pinned.checked.prog.funcs[f]? = some fn) :
    false = Tryz.pinned.checked.prog.looks [] ∧ ∀ (j : Nat) t, fn.params[j]? = some t → Tryz.pinned.checked.prog.wantsStandIn t = false := by
  obtain rfl : f = 6 := Option.some.inj ((show Tryz.prog.funcNamed "feedvault/feedvaultlaw14.NormalizeKeepsValid" = some 6 by kernel_rfl).symm.trans hf) |>.symm
  obtain rfl : fn = Tryz.f6 := (Option.some.inj (Tryz.func6.symm.trans hfn)).symm
  refine ⟨by kernel_rfl, fun j t ht => ?_⟩
  rw [Tryz.params6] at ht
  have hm : t ∈ [46] := by simpa using Array.mem_of_getElem? ht
  have hall : ([46].all fun u => !Tryz.prog.wantsStandIn u) = true := by kernel_rfl
  exact (show Tryz.prog.wantsStandIn t = false by simpa using List.all_eq_true.1 hall t hm)
theorem card_NormalizeKeepsValid : Rows.NormalizeKeepsValidCardSaid :=
  Claim7.holds_tied_plain_at .later [] _ _ _ _ said_NormalizeKeepsValid (fun _ h => by cases h) (by kernel_rfl) (fun _ h => by cases h) normalizeKeepsValid_row_tie rfl ⟨rfl, rfl⟩ (by kernel_rfl) rfl plain_NormalizeKeepsValid (by kernel_rfl)
end Go.Proofs.YtbfalppeifkjdaaGreatDoor
end
