/- Packed from the texts TrfB TrlM. -/
import Derived.Test.YtpmkapamlhnmpaaGreatDoorPkF
import Derived.Test.YtpmkapamlhnmpaaGreatDoorQRfcW
import Derived.Test.YtpmkapamlhnmpaaGreatDoorQTokX
import Derived.Test.YtpmkapamlhnmpaaGreatDoorCards
import Derived.Test.YtpmkapamlhnmpaaGreatDoorTie
import Derived.ProofKit
import Derived.OpenShut
import Derived.SliceStrings
import Derived.SizedLaws
import Derived.Lay
import Derived.LaidOnce
import Derived.SevenTiedAt
section
namespace Go.Proofs.YtpmkapamlhnmpaaGreatDoor
open Go.RowKit
theorem allEq_refl (off : Bool) : ∀ l : List AttrD, allEq off l l = true
  | [] => rfl
  | x :: r => by
    rw [allEq, allEq_refl off r, Bool.and_true]
    exact decide_eq_true ⟨rfl, rfl, rfl, fun _ => rfl⟩
mutual
theorem eqB_refl (off : Bool) : ∀ n : NodeD, n.eqB off n = true
  | .mk k s n al kids tx a => by
    rw [NodeD.eqB]
    have h1 : headEq off (.mk k s n al kids tx a) (.mk k s n al kids tx a) = true := decide_eq_true ⟨rfl, rfl, rfl, rfl, fun _ => rfl, rfl, rfl⟩
    rw [h1, Bool.true_and]
    show (allEq off al al && eqsB off kids kids) = true
    rw [allEq_refl, eqsB_refl off kids]
    rfl
theorem eqsB_refl (off : Bool) : ∀ l : List NodeD, eqsB off l l = true
  | [] => rfl
  | k :: r => by rw [eqsB, eqB_refl off k, eqsB_refl off r]; rfl
end
set_option maxRecDepth 100000 in
set_option maxHeartbeats 8000000 in
theorem walk_TreMatches (s : ByteArray) (w : World) (hT : TokT w) : Calls Tryz.prog 3 #[.string s] w fun e w' => e = .returned (.bool true) ∧ Below w.heap.size w w' := by
  have cA : ∀ wx, TokT wx → _ := fun wx ht => tre_alive wx ht
  by_cases hs : s.size ≤ 3000
  · have hsz : (s.size : Int) ≤ 3000 := by omega
    have c1 := fun wx ht => xt_Parse s wx (by omega) ht
    have c2 := fun wx => tref_Parse s wx (by omega)
    have hsm := (parse_small s (by omega)).2.2
    generalize parseP s = R at *
    obtain ⟨n, x1, x2⟩ := R
    simp only at hsm
    have cE := fun wx v u h h' => tref_Equal true n.wt n n v u wx (Nat.le_refl _) (by omega) h h'
    rw [eqB_refl] at cE
    clear hsm
    go_enter Tryz.func3, Tryz.ntmps3
    go_wp2_with fail
    refine (c1 _ hT).mono ?_
    rintro e w1 ⟨v1, rfl, hn1, b1⟩
    obtain ⟨pa, ca, pk, ck, rfl⟩ := node_form hn1
    simp only at hn1
    have b1' := then_box b1 (.cells #[.int .i64 n.kind, .string n.sp, .string n.nm, .slice pa n.al.length ca, .slice pk n.kids.length ck, .string n.tx, .int .i64 n.at'] 26)
    have t1 := TokT_below hT b1'
    have B1 : Blk (w1.alloc (.cells #[.int .i64 n.kind, .string n.sp, .string n.nm, .slice pa n.al.length ca, .slice pk n.kids.length ck, .string n.tx, .int .i64 n.at'] 26)) w1.heap.size _ _ := Blk.new w1 #[.int .i64 n.kind, .string n.sp, .string n.nm, .slice pa n.al.length ca, .slice pk n.kids.length ck, .string n.tx, .int .i64 n.at'] 26
    have hn1' := NodeIs.below ((Below.refl w1.heap.size w1).alloc (Nat.le_refl _) (.cells #[.int .i64 n.kind, .string n.sp, .string n.nm, .slice pa n.al.length ca, .slice pk n.kids.length ck, .string n.tx, .int .i64 n.at'] 26)) _ _ hn1
    go_wp2_with fail
    refine (c2 _).mono ?_
    rintro e w2 ⟨v2, rfl, hn2, b2⟩
    obtain ⟨pa2, ca2, pk2, ck2, rfl⟩ := node_form hn2
    simp only at hn2
    have m2 := (Below.refl w2.heap.size w2).alloc (Nat.le_refl _) (.cells #[.int .i64 n.kind, .string n.sp, .string n.nm, .slice pa2 n.al.length ca2, .slice pk2 n.kids.length ck2, .string n.tx, .int .i64 n.at'] 26)
    have b2' := then_box b2 (.cells #[.int .i64 n.kind, .string n.sp, .string n.nm, .slice pa2 n.al.length ca2, .slice pk2 n.kids.length ck2, .string n.tx, .int .i64 n.at'] 26)
    have t2 := TokT_below t1 b2'
    have B2 : Blk (w2.alloc (.cells #[.int .i64 n.kind, .string n.sp, .string n.nm, .slice pa2 n.al.length ca2, .slice pk2 n.kids.length ck2, .string n.tx, .int .i64 n.at'] 26)) w2.heap.size _ _ := Blk.new w2 #[.int .i64 n.kind, .string n.sp, .string n.nm, .slice pa2 n.al.length ca2, .slice pk2 n.kids.length ck2, .string n.tx, .int .i64 n.at'] 26
    have B1' := B1.more b2'
    have q1 := NodeIs.below b2' _ _ hn1'
    have q2 := NodeIs.below m2 _ _ hn2
    clear hn1 hn1' hn2 c1 c2 m2 b1 b2 B1 t1 hT
    go_wp2_with fail
    refine (cA _ t2).mono ?_
    rintro e w3 ⟨rfl, b3⟩
    have r1 := NodeIs.below b3 _ _ q1
    have r2 := NodeIs.below b3 _ _ q2
    have C1 := B1'.more b3
    have C2 := B2.more b3
    have f0 := C1.cell 0
    have f1 := C1.cell 1
    have f2 := C1.cell 2
    have f3 := C1.cell 3
    have f4 := C1.cell 4
    have f5 := C1.cell 5
    have f6 := C1.cell 6
    have g0 := C2.cell 0
    have g1 := C2.cell 1
    have g2 := C2.cell 2
    have g3 := C2.cell 3
    have g4 := C2.cell 4
    have g5 := C2.cell 5
    have g6 := C2.cell 6
    simp only [List.getElem?_toArray, List.getElem?_cons_succ, List.getElem?_cons_zero] at f0 f1 f2 f3 f4 f5 f6 g0 g1 g2 g3 g4 g5 g6
    have cE' := cE _ _ _ r1 r2
    have s1 := b1'.size
    have s2 := b2'.size
    have HB := Lib.hid ((b1'.trans (b2'.mono s1)).trans (b3.mono (Nat.le_trans s1 s2)))
    clear q1 q2 r1 r2 C1 C2 B1' B2 cE b1' b2' b3 t2 cA s1 s2
    go_wp2_with fail
    refine cE'.mono ?_
    rintro e w4 ⟨rfl, b4⟩
    go_wp2
    go_ret
    exact ⟨by simp, HB.out.trans (b4.mono HB.out.size)⟩
  · have hsz : ¬ (s.size : Int) ≤ 3000 := by omega
    go_enter Tryz.func3, Tryz.ntmps3
    go_wp2_with fail
    refine (cA _ hT).mono ?_
    rintro e w1 ⟨rfl, b1⟩
    go_wp2
    go_ret
    exact ⟨rfl, b1⟩
set_option maxRecDepth 100000 in
set_option maxHeartbeats 8000000 in
theorem walk_TreNormal (s : ByteArray) (w : World) (hT : TokT w) : Calls Tryz.prog 5 #[.string s] w fun e w' => e = .returned (.bool true) ∧ Below w.heap.size w w' := by
  have cA : ∀ wx, TokT wx → _ := fun wx ht => tre_alive wx ht
  by_cases hs : s.size ≤ 3000
  · have hsz : (s.size : Int) ≤ 3000 := by omega
    have c1 := fun wx ht => xt_Parse s wx (by omega) ht
    have hsm := parse_small s (by omega)
    have hgood := parse_normal s
    have hbad := parse_bad s
    generalize parseP s = R at *
    obtain ⟨n, x1, x2⟩ := R
    simp only at hsm hgood hbad
    by_cases hx : x2 = 0
    · obtain ⟨hk, hd, hnn, hat⟩ := hgood hx
      subst hx
      have cD := fun wx v h => tref_Depth n.cnt n v wx (Nat.le_refl _) (by omega) h
      have cN := fun wx v h => law_normal n.wt n v wx (Nat.le_refl _) (by omega) h
      rw [hnn] at cN
      have hdz : ((n.depth : Nat) : Int) ≤ 100 := by omega
      have HK := Lib.hid hk
      clear hsm hgood hbad hnn hd hk
      subst hat
      go_enter Tryz.func5, Tryz.ntmps5
      go_wp2_with fail
      refine (c1 _ hT).mono ?_
      rintro e w1 ⟨v1, rfl, hn1, b1⟩
      obtain ⟨pa, ca, pk, ck, rfl⟩ := node_form hn1
      simp only at hn1
      have b1' := then_box b1 (.cells #[.int .i64 n.kind, .string n.sp, .string n.nm, .slice pa n.al.length ca, .slice pk n.kids.length ck, .string n.tx, .int .i64 n.at'] 26)
      have t1 := TokT_below hT b1'
      have B1 : Blk (w1.alloc (.cells #[.int .i64 n.kind, .string n.sp, .string n.nm, .slice pa n.al.length ca, .slice pk n.kids.length ck, .string n.tx, .int .i64 n.at'] 26)) w1.heap.size _ _ := Blk.new w1 #[.int .i64 n.kind, .string n.sp, .string n.nm, .slice pa n.al.length ca, .slice pk n.kids.length ck, .string n.tx, .int .i64 n.at'] 26
      have hn1' := NodeIs.below ((Below.refl w1.heap.size w1).alloc (Nat.le_refl _) (.cells #[.int .i64 n.kind, .string n.sp, .string n.nm, .slice pa n.al.length ca, .slice pk n.kids.length ck, .string n.tx, .int .i64 n.at'] 26)) _ _ hn1
      clear hn1 c1 b1 hT
      go_wp2_with fail
      refine (cA _ t1).mono ?_
      rintro e w3 ⟨rfl, b3⟩
      have r1 := NodeIs.below b3 _ _ hn1'
      have C1 := B1.more b3
      have f0 := C1.cell 0
      have f1 := C1.cell 1
      have f2 := C1.cell 2
      have f3 := C1.cell 3
      have f4 := C1.cell 4
      have f5 := C1.cell 5
      have f6 := C1.cell 6
      simp only [List.getElem?_toArray, List.getElem?_cons_succ, List.getElem?_cons_zero] at f0 f1 f2 f3 f4 f5 f6
      have cD' := cD _ _ r1
      have HB := Lib.hid (b1'.trans (b3.mono b1'.size))
      clear hn1' B1 b1' b3 t1 cA cD
      go_wp2_with fail
      refine cD'.mono ?_
      rintro e w4 ⟨rfl, b4⟩
      have r2 := NodeIs.below b4 _ _ r1
      have C2 := C1.more b4
      have g0 := C2.cell 0
      have g1 := C2.cell 1
      have g2 := C2.cell 2
      have g3 := C2.cell 3
      have g4 := C2.cell 4
      have g5 := C2.cell 5
      have g6 := C2.cell 6
      simp only [List.getElem?_toArray, List.getElem?_cons_succ, List.getElem?_cons_zero] at g0 g1 g2 g3 g4 g5 g6
      have cN' := cN _ _ r2
      have HB4 := Lib.hid (HB.out.trans (b4.mono HB.out.size))
      clear r1 r2 C1 C2 b4 HB f0 f1 f2 f3 f4 f5 f6 cN cD'
      rw [HK.out] at g0
      rw [HK.out] at cN'
      go_wp2_with fail
      refine cN'.mono ?_
      rintro e w5 ⟨rfl, b5⟩
      rw [show oneIf true = 1 from rfl]
      go_wp2
      go_ret
      exact ⟨by simp, HB4.out.trans (b5.mono HB4.out.size)⟩
    · obtain ⟨rfl, h0, h1⟩ := hbad hx
      have hxb : (x2 != 0) = true := by simpa using hx
      have cE := fun wx v u h h' => tref_Equal true 1 zeroN zeroN v u wx (by decide) (by decide) h h'
      rw [eqB_refl] at cE
      clear hsm hgood hbad
      go_enter Tryz.func5, Tryz.ntmps5
      go_wp2_with fail
      refine (c1 _ hT).mono ?_
      rintro e w1 ⟨v1, rfl, hn1, b1⟩
      simp only at hn1
      obtain ⟨pa, ca, pk, ck, rfl⟩ := zeroN_val hn1
      have b1' := then_box b1 (.cells #[.int .i64 0, .string ⟨#[]⟩, .string ⟨#[]⟩, .slice pa 0 ca, .slice pk 0 ck, .string ⟨#[]⟩, .int .i64 0] 26)
      have t1 := TokT_below hT b1'
      have B1 : Blk (w1.alloc (.cells #[.int .i64 0, .string ⟨#[]⟩, .string ⟨#[]⟩, .slice pa 0 ca, .slice pk 0 ck, .string ⟨#[]⟩, .int .i64 0] 26)) w1.heap.size _ _ := Blk.new w1 #[.int .i64 0, .string ⟨#[]⟩, .string ⟨#[]⟩, .slice pa 0 ca, .slice pk 0 ck, .string ⟨#[]⟩, .int .i64 0] 26
      have hn1' := NodeIs.below ((Below.refl w1.heap.size w1).alloc (Nat.le_refl _) (.cells #[.int .i64 0, .string ⟨#[]⟩, .string ⟨#[]⟩, .slice pa 0 ca, .slice pk 0 ck, .string ⟨#[]⟩, .int .i64 0] 26)) _ _ hn1
      clear hn1 c1 b1 hT
      go_wp2_with fail
      refine (cA _ t1).mono ?_
      rintro e w3 ⟨rfl, b3⟩
      have r1 := NodeIs.below b3 _ _ hn1'
      have C1 := B1.more b3
      have f0 := C1.cell 0
      have f1 := C1.cell 1
      have f2 := C1.cell 2
      have f3 := C1.cell 3
      have f4 := C1.cell 4
      have f5 := C1.cell 5
      have f6 := C1.cell 6
      simp only [List.getElem?_toArray, List.getElem?_cons_succ, List.getElem?_cons_zero] at f0 f1 f2 f3 f4 f5 f6
      have cE' := cE _ _ _ r1 (zero_is w3)
      unfold zeroV at cE'
      have HB := Lib.hid (b1'.trans (b3.mono b1'.size))
      clear hn1' B1 b1' b3 t1 cA cE r1 C1
      go_wp2_with fail
      refine cE'.mono ?_
      rintro e w4 ⟨rfl, b4⟩
      go_wp2
      go_ret
      exact ⟨by simp, HB.out.trans (b4.mono HB.out.size)⟩
  · have hsz : ¬ (s.size : Int) ≤ 3000 := by omega
    go_enter Tryz.func5, Tryz.ntmps5
    go_wp2_with fail
    refine (cA _ hT).mono ?_
    rintro e w1 ⟨rfl, b1⟩
    go_wp2
    go_ret
    exact ⟨rfl, b1⟩
end Go.Proofs.YtpmkapamlhnmpaaGreatDoor
end
section
namespace Go.Proofs.YtpmkapamlhnmpaaGreatDoor
open Go.RowKit Go.Lib Go.ChangeShapes Go.WideShapes Go.ChangeAt
open Go.ChangeMaps (open_string shut_string)
theorem ownTM : ownKnob Tryz.prog.godebug = none := by kernel_rfl
set_option maxRecDepth 100000 in
theorem lifted_XmltreeMatchesReference (os : Os) (started : os.Started) (H : Type) (enc : TypeId × Value → H) :
    ReturnsInHanded {} Tryz.checked os 3 .any (fun w args => (Rows.xmltreeMatchesReferenceSpec.pre enc Tryz.prog Tryz.f3 [] false w args ∧ laidMetH Tryz.prog tokLaid w) ∧ sizedMet enc Tryz.prog Tryz.f3 (OpenSpec.ofChange Rows.xmltreeMatchesReferenceSpec) false w args)
      (Rows.xmltreeMatchesReferenceSpec.post enc Tryz.prog Tryz.f3 false true false false) := by
  refine handed_with (C := Tryz.checked) (X := laidMetH Tryz.prog tokLaid) ownTM started (by kernel_rfl) Tryz.func3 (fun _ _ hh h => h.of_heap hh)
    (ChangeSpec.witness_shaped (enc := enc) (C := Tryz.checked) (os := os) (X := fun w _ => laidMetH Tryz.prog tokLaid w) false (World.laidAll Tryz.prog os tokLaid) #[.string ⟨#[]⟩] 8 (World.laidAll_os _ _ _)
      (World.shaped_of_ZipB (by kernel_rfl) (by kernel_rfl)) (by kernel_rfl) (by kernel_rfl) (by kernel_rfl)
      (by rw [MakeChecks.laidMetH_plain _ _ _ (by kernel_rfl)]; exact laidMet_laidAll _ (by kernel_rfl) (by kernel_rfl))) ?_
  intro W base args ds gs before hval0 hW hsh hL
  have hval : ∀ (j : Nat) t v, Tryz.f3.params[j]? = some t → args[j]? = some v → Value.okWide Tryz.prog W .any base t v := hval0
  have hW' := hW
  obtain ⟨p, q, hA0, hV, rfl, _, _⟩ := hW
  have hA : DataW.TrodAll enc Tryz.prog W 0 (fun _ => true) true Tryz.f3.params.toList args.toList ds p := hA0
  rw [Tryz.params3] at hA hval
  obtain ⟨v0, d0, rfl, rfl, h0⟩ := trodAll_one hA
  obtain ⟨rfl, rfl⟩ := trodVars_none hV
  obtain ⟨s0, rfl, rfl, rfl, ws0⟩ := open_string Tryz.underlying9 (hval 0 9 v0 rfl rfl) h0
  simp only [List.append_nil] at hW'
  refine (walk_TreMatches s0 W (tokT_of_laid hL hsh)).mono fun e W' ⟨he, hb⟩ => ?_
  subst he
  exact ⟨_, rfl, _, _, _, [], [], [], hW', trodAll_mk1 (shut_bool Tryz.underlying4 _), trodAll_mk1 (shut_string Tryz.underlying9 ws0), rfl, hb.frame _, fun h => by cases h⟩
theorem said_XmltreeMatchesReference : Rows.XmltreeMatchesReferenceSaid :=
  OpenClaim.holds_of_wide 3 Tryz.f3 rfl rfl rfl rfl rfl rfl rfl ⟨rfl, rfl, rfl, rfl, rfl⟩ rfl rfl rfl rfl rfl (by kernel_rfl) Tryz.func3 (by kernel_rfl)
    (of_decide_eq_true (by kernel_rfl)) (by unfold Func.isWrapper; first | (rw [if_pos (by decide +kernel)]; kernel_rfl) | (rw [if_neg (by decide +kernel)]; exact ⟨rfl, rfl⟩))
    (fun os started H enc _ => lifted_XmltreeMatchesReference os started H enc)
theorem plain_XmltreeMatchesReference (f : FuncId) (fn : Func) (hf : Tryz.pinned.checked.prog.funcNamed "feedvault/feedvaultlaw07.XmltreeMatchesReference" = some f) (hfn : Tryz.pinned.checked.prog.funcs[f]? = some fn) :
    false = Tryz.pinned.checked.prog.looks [] ∧ ∀ (j : Nat) t, fn.params[j]? = some t → Tryz.pinned.checked.prog.wantsStandIn t = false := by
  obtain rfl : f = 3 := Option.some.inj ((show Tryz.prog.funcNamed "feedvault/feedvaultlaw07.XmltreeMatchesReference" = some 3 by kernel_rfl).symm.trans hf) |>.symm
  obtain rfl : fn = Tryz.f3 := (Option.some.inj (Tryz.func3.symm.trans hfn)).symm
  refine ⟨by kernel_rfl, fun j t ht => ?_⟩
  rw [Tryz.params3] at ht
  have hm : t ∈ [9] := by simpa using Array.mem_of_getElem? ht
  have hall : ([9].all fun u => !Tryz.prog.wantsStandIn u) = true := by kernel_rfl
  exact (show Tryz.prog.wantsStandIn t = false by simpa using List.all_eq_true.1 hall t hm)
theorem card_XmltreeMatchesReference : Rows.XmltreeMatchesReferenceCardSaid :=
  Claim7.holds_tied_plain_at .later [] _ _ _ _ said_XmltreeMatchesReference (fun _ h => by cases h) (by kernel_rfl) (fun _ h => by cases h) xmltreeMatchesReference_row_tie rfl ⟨rfl, rfl⟩ (by kernel_rfl) rfl plain_XmltreeMatchesReference (by kernel_rfl)
set_option maxRecDepth 100000 in
theorem lifted_XmltreeIsNormal (os : Os) (started : os.Started) (H : Type) (enc : TypeId × Value → H) :
    ReturnsInHanded {} Tryz.checked os 5 .any (fun w args => (Rows.xmltreeIsNormalSpec.pre enc Tryz.prog Tryz.f5 [] false w args ∧ laidMetH Tryz.prog tokLaid w) ∧ sizedMet enc Tryz.prog Tryz.f5 (OpenSpec.ofChange Rows.xmltreeIsNormalSpec) false w args)
      (Rows.xmltreeIsNormalSpec.post enc Tryz.prog Tryz.f5 false true false false) := by
  refine handed_with (C := Tryz.checked) (X := laidMetH Tryz.prog tokLaid) ownTM started (by kernel_rfl) Tryz.func5 (fun _ _ hh h => h.of_heap hh)
    (ChangeSpec.witness_shaped (enc := enc) (C := Tryz.checked) (os := os) (X := fun w _ => laidMetH Tryz.prog tokLaid w) false (World.laidAll Tryz.prog os tokLaid) #[.string ⟨#[]⟩] 8 (World.laidAll_os _ _ _)
      (World.shaped_of_ZipB (by kernel_rfl) (by kernel_rfl)) (by kernel_rfl) (by kernel_rfl) (by kernel_rfl)
      (by rw [MakeChecks.laidMetH_plain _ _ _ (by kernel_rfl)]; exact laidMet_laidAll _ (by kernel_rfl) (by kernel_rfl))) ?_
  intro W base args ds gs before hval0 hW hsh hL
  have hval : ∀ (j : Nat) t v, Tryz.f5.params[j]? = some t → args[j]? = some v → Value.okWide Tryz.prog W .any base t v := hval0
  have hW' := hW
  obtain ⟨p, q, hA0, hV, rfl, _, _⟩ := hW
  have hA : DataW.TrodAll enc Tryz.prog W 0 (fun _ => true) true Tryz.f5.params.toList args.toList ds p := hA0
  rw [Tryz.params5] at hA hval
  obtain ⟨v0, d0, rfl, rfl, h0⟩ := trodAll_one hA
  obtain ⟨rfl, rfl⟩ := trodVars_none hV
  obtain ⟨s0, rfl, rfl, rfl, ws0⟩ := open_string Tryz.underlying9 (hval 0 9 v0 rfl rfl) h0
  simp only [List.append_nil] at hW'
  refine (walk_TreNormal s0 W (tokT_of_laid hL hsh)).mono fun e W' ⟨he, hb⟩ => ?_
  subst he
  exact ⟨_, rfl, _, _, _, [], [], [], hW', trodAll_mk1 (shut_bool Tryz.underlying4 _), trodAll_mk1 (shut_string Tryz.underlying9 ws0), rfl, hb.frame _, fun h => by cases h⟩
theorem said_XmltreeIsNormal : Rows.XmltreeIsNormalSaid :=
  OpenClaim.holds_of_wide 5 Tryz.f5 rfl rfl rfl rfl rfl rfl rfl ⟨rfl, rfl, rfl, rfl, rfl⟩ rfl rfl rfl rfl rfl (by kernel_rfl) Tryz.func5 (by kernel_rfl)
    (of_decide_eq_true (by kernel_rfl)) (by unfold Func.isWrapper; first | (rw [if_pos (by decide +kernel)]; kernel_rfl) | (rw [if_neg (by decide +kernel)]; exact ⟨rfl, rfl⟩))
    (fun os started H enc _ => lifted_XmltreeIsNormal os started H enc)
theorem plain_XmltreeIsNormal (f : FuncId) (fn : Func) (hf : Tryz.pinned.checked.prog.funcNamed "feedvault/feedvaultlaw07.XmltreeIsNormal" = some f) (hfn : Tryz.pinned.checked.prog.funcs[f]? = some fn) :
    false = Tryz.pinned.checked.prog.looks [] ∧ ∀ (j : Nat) t, fn.params[j]? = some t → Tryz.pinned.checked.prog.wantsStandIn t = false := by
  obtain rfl : f = 5 := Option.some.inj ((show Tryz.prog.funcNamed "feedvault/feedvaultlaw07.XmltreeIsNormal" = some 5 by kernel_rfl).symm.trans hf) |>.symm
  obtain rfl : fn = Tryz.f5 := (Option.some.inj (Tryz.func5.symm.trans hfn)).symm
  refine ⟨by kernel_rfl, fun j t ht => ?_⟩
  rw [Tryz.params5] at ht
  have hm : t ∈ [9] := by simpa using Array.mem_of_getElem? ht
  have hall : ([9].all fun u => !Tryz.prog.wantsStandIn u) = true := by kernel_rfl
  exact (show Tryz.prog.wantsStandIn t = false by simpa using List.all_eq_true.1 hall t hm)
theorem card_XmltreeIsNormal : Rows.XmltreeIsNormalCardSaid :=
  Claim7.holds_tied_plain_at .later [] _ _ _ _ said_XmltreeIsNormal (fun _ h => by cases h) (by kernel_rfl) (fun _ h => by cases h) xmltreeIsNormal_row_tie rfl ⟨rfl, rfl⟩ (by kernel_rfl) rfl plain_XmltreeIsNormal (by kernel_rfl)
end Go.Proofs.YtpmkapamlhnmpaaGreatDoor
end
