/- Laws, for every input and whatever the memory: each returns true and leaves its arguments as they were, where the listed tables hold what the program's text lays. Proved: NormalizeSplits. -/
import Derived.Test.YtbfalppeifkjdaaGreatDoorXNnW
import Derived.Test.YtbfalppeifkjdaaGreatDoorXk4
import Derived.Test.YtbfalppeifkjdaaGreatDoorXm8
import Derived.Test.YtbfalppeifkjdaaGreatDoorCards
import Derived.Test.YtbfalppeifkjdaaGreatDoorTie
import Derived.ProofKit
import Derived.OpenShut
import Derived.SliceStrings
import Derived.SizedLaws
import Derived.Lay
import Derived.LaidOnce
import Derived.SevenTiedAt
section
namespace Go.Proofs.YtbfalppeifkjdaaGreatDoor
open Go.RowKit Go.Lib Go.ChangeShapes Go.WideShapes Go.ChangeAt
open Go.ChangeMaps (open_string shut_string)
theorem ownSS : ownKnob Tryz.prog.godebug = none := by kernel_rfl
theorem laidOutN : laidOutB Tryz.prog = true := by kernel_rfl
set_option maxRecDepth 100000 in
theorem lifted_NormalizeSplits (os : Os) (started : os.Started) (H : Type) (enc : TypeId × Value → H) :
    ReturnsInHanded {} Tryz.checked os 8 .any (fun w args => (Rows.normalizeSplitsSpec.pre enc Tryz.prog Tryz.f8 [] false w args ∧ laidMetH Tryz.prog n14Laid w) ∧ sizedMet enc Tryz.prog Tryz.f8 (OpenSpec.ofChange Rows.normalizeSplitsSpec) false w args)
      (Rows.normalizeSplitsSpec.post enc Tryz.prog Tryz.f8 false true false false) := by
  refine returnsInHanded_of_change_and (C := Tryz.checked) (X := fun w _ => laidMetH Tryz.prog n14Laid w) (fun _ _ _ hh h => h.of_heap hh) ownSS started (by kernel_rfl) Tryz.func8
    (ChangeSpec.witness_shaped (enc := enc) (C := Tryz.checked) (os := os) (X := fun w _ => laidMetH Tryz.prog n14Laid w) false (World.laidAll Tryz.prog os n14Laid) #[.agg #[.slice none 0 0, .string ⟨#[]⟩, .string ⟨#[]⟩, .string ⟨#[]⟩, .int .i64 0, .slice none 0 0], .int .u8 0] 8 (World.laidAll_os _ _ _)
      (World.shaped_of_ZipB (by kernel_rfl) (by kernel_rfl)) (by kernel_rfl) (by kernel_rfl) (by kernel_rfl)
      (by rw [MakeChecks.laidMetH_plain _ _ _ (by kernel_rfl)]; exact laidMet_laidAll _ (by kernel_rfl) (by kernel_rfl))) ?_
  intro W base args ds gs before hval0 hW _ hsz hL _
  have hval : ∀ (j : Nat) t v, Tryz.f8.params[j]? = some t → args[j]? = some v → Value.okWide Tryz.prog W .any base t v := hval0
  have hW' := hW
  obtain ⟨p, q, hA0, hV, rfl, _, _⟩ := hW
  have hA : DataW.TrodAll enc Tryz.prog W 0 (fun _ => true) true Tryz.f8.params.toList args.toList ds p := hA0
  rw [Tryz.params8] at hA hval hsz
  obtain ⟨v0, v1, d0, d1, p0, p1, rfl, rfl, rfl, h0, h1⟩ := trodAll_two hA
  obtain ⟨rfl, rfl⟩ := trodVars_none hV
  have hk0 := h0
  have hlt0 : ∀ x ∈ p0, x.block < W.heap.size := fun x hx => by simpa using hW'.lt x (by simp [hx])
  have hz0 : Sj Tryz.prog 35 d0 := fun z hz => of_decide_eq_true (List.all_eq_true.1 hsz _ (DataW.weights_mem_each (j := 0) (t := 35) rfl rfl z hz))
  obtain ⟨f0, pk0, ck0, qk0, dk0, rfl, hN0, hE0, hO0, hc0⟩ : ∃ (f : FeedD) (p : Option Addr) (c : Nat) (q : Option Addr) (d : Nat), v0 = .agg #[.slice p f.path.length c, .string f.id, .string f.title, .string f.link, .int .i64 f.upd, .slice q f.ents.length d] ∧ NamAt W p f.path ∧ EntsAt W q f.ents ∧ FOpn f ∧ f.ents.length ≤ d := by
    obtain ⟨cs, rfl, _⟩ := okWide_struct (show Tryz.prog.underlying 35 = some (.struct (Tryz.prog.fieldsOf 35)) by kernel_rfl) (hval 0 35 v0 rfl rfl)
    obtain ⟨fuel, hf⟩ := h0
    obtain ⟨f, p, c, q, d, hc, hN, hE, hO, hcap⟩ := nopen_feedc hf hz0
    exact ⟨f, p, c, q, d, congrArg Value.agg (Array.toList_inj.1 (by simpa [Value.cells] using hc)), hN, hE, hO, hcap⟩
  obtain ⟨x1, rfl, rfl, rfl, wx1⟩ := open_int Tryz.underlying5 (hval 1 5 v1 rfl rfl) h1
  simp only [List.append_nil] at hW'
  have hx1 : 0 ≤ x1 ∧ x1 ≤ 255 := by simpa [Lit.wf, IntKind.min, IntKind.max, IntKind.signed, IntKind.bits] using wx1
  refine (walk_NSplits f0 pk0 ck0 qk0 dk0 x1 W hN0 hE0 hO0 hc0 hx1.1 hx1.2 (n14T_of_laid hL)).mono fun e W' ⟨he, hb⟩ => ?_
  subst he
  exact ⟨_, rfl, _, _, _, [], _, [], hW', trodAll_mk1 (shut_bool Tryz.underlying4 _), trodAll_mk2 (Below.trod laidOutN (by kernel_rfl) (of_decide_eq_true (by kernel_rfl)) hk0 hb hlt0) (shut_int Tryz.underlying5 wx1), rfl, hb.frame _, fun h => by cases h⟩
theorem said_NormalizeSplits : Rows.NormalizeSplitsSaid :=
  OpenClaim.holds_of_wide 8 Tryz.f8 rfl rfl rfl rfl rfl rfl rfl ⟨rfl, rfl, rfl, rfl, rfl⟩ rfl rfl rfl rfl rfl (by kernel_rfl) Tryz.func8 (by kernel_rfl)
    (of_decide_eq_true (by kernel_rfl)) (by unfold Func.isWrapper; first | (rw [if_pos (by decide +kernel)]; kernel_rfl) | (rw [if_neg (by decide +kernel)]; exact ⟨rfl, rfl⟩))
    (fun os started H enc _ => lifted_NormalizeSplits os started H enc)
theorem plain_NormalizeSplits (f : FuncId) (fn : Func) (hf : Tryz.pinned.checked.prog.funcNamed "feedvault/feedvaultlaw14.NormalizeSplits" = some f) (hfn : Tryz.pinned.checked.prog.funcs[f]? = some fn) :
    false = Tryz.pinned.checked.prog.looks [] ∧ ∀ (j : Nat) t, fn.params[j]? = some t → Tryz.pinned.checked.prog.wantsStandIn t = false := by
  obtain rfl : f = 8 := Option.some.inj ((show Tryz.prog.funcNamed "feedvault/feedvaultlaw14.NormalizeSplits" = some 8 by kernel_rfl).symm.trans hf) |>.symm
  obtain rfl : fn = Tryz.f8 := (Option.some.inj (Tryz.func8.symm.trans hfn)).symm
  refine ⟨by kernel_rfl, fun j t ht => ?_⟩
  rw [Tryz.params8] at ht
  have hm : t ∈ [35, 5] := by simpa using Array.mem_of_getElem? ht
  have hall : ([35, 5].all fun u => !Tryz.prog.wantsStandIn u) = true := by kernel_rfl
  exact (show Tryz.prog.wantsStandIn t = false by simpa using List.all_eq_true.1 hall t hm)
theorem card_NormalizeSplits : Rows.NormalizeSplitsCardSaid :=
  Claim7.holds_tied_plain_at .later [] _ _ _ _ said_NormalizeSplits (fun _ h => by cases h) (by kernel_rfl) (fun _ h => by cases h) normalizeSplits_row_tie rfl ⟨rfl, rfl⟩ (by kernel_rfl) rfl plain_NormalizeSplits (by kernel_rfl)
end Go.Proofs.YtbfalppeifkjdaaGreatDoor
end
