/- Packed from the texts MeF. -/
import Derived.Test.YtggfblodjanfkaaGreatDoorVMeD
section
namespace Go.Proofs.YtggfblodjanfkaaGreatDoor
open Go.RowKit
theorem okName_all (l : List ByteArray) : l.all okName = ((l.all fun s => !decide (s.size = 0)) && l.all validB) := by
  induction l with
  | nil => rfl
  | cons a r ih =>
    rw [List.all_cons, List.all_cons, List.all_cons, ih]
    unfold okName
    generalize decide (a.size = 0) = x
    generalize validB a = y
    generalize (r.all fun s => !decide (s.size = 0)) = z
    generalize r.all validB = t
    cases x <;> cases y <;> cases z <;> cases t <;> rfl
set_option maxRecDepth 100000 in
set_option maxHeartbeats 4000000 in
theorem mc_validPath (l : List ByteArray) (p : Option Addr) (c : Nat) (w : World) (hl : NamAt w p l) (hs : ∀ s ∈ l, s.size ≤ 70368744177664) (hn : l.length ≤ 100000000) (hT : HasUtf8 w) :
    Calls Tryz.prog 43 #[.slice p l.length c] w fun e w' => e = .returned (.bool (decide (l.length ≤ 64) && l.all okName)) ∧ Below w.heap.size w w' := by
  obtain ⟨R, hR⟩ : ∃ R, (decide (l.length ≤ 64) && l.all okName) = R := ⟨_, rfl⟩
  rw [hR]
  rw [okName_all] at hR
  have hnz : (l.length : Int) ≤ 100000000 := by omega
  have HL := Lib.hid hl
  have cV := fun wx (hb : Below w.heap.size w wx) => mc_validStrings l p c wx (hl.below hb) hs hn (mu_below hT hb)
  have HV := Lib.hid cV
  generalize l.all validB = V at *
  have HR := Lib.hid (show R = (decide (l.length ≤ 64) && (((l.drop 0).all fun s => !decide (s.size = 0)) && V)) from hR.symm)
  clear hl hs hT hR cV
  go_enter Tryz.func43, Tryz.ntmps43
  go_wp2
  go_loopw [7] (fun v wr => ∃ i : Nat, i ≤ l.length ∧ v = .int .i64 (i : Int) ∧ R = (decide (l.length ≤ 64) && (((l.drop i).all fun s => !decide (s.size = 0)) && V)) ∧ Below w.heap.size w wr) (fun v _ => l.length - (RowKit.intOf v).toNat)
  case atStart => exact ⟨0, Nat.zero_le _, rfl, HR.out, Below.refl _ _⟩
  case round =>
    clear HR
    obtain ⟨i, hi, rfl, hR, hb⟩ := hrel
    by_cases hlt : i < l.length
    · have hiz : (i : Int) < (l.length : Int) := by omega
      obtain ⟨a, rfl, ca⟩ := HL.out.below hb i hlt
      rw [List.drop_eq_getElem_cons hlt, List.all_cons] at hR
      obtain ⟨x, hx⟩ : ∃ x, l[i] = x := ⟨_, rfl⟩
      rw [hx] at ca hR
      clear hx
      obtain ⟨aa, haa⟩ : ∃ aa, a.add i = aa := ⟨_, rfl⟩
      rw [haa] at ca
      have HB := Lib.hid hb
      clear hb
      by_cases h0 : x.size = 0
      · obtain ⟨s1, s2, s3⟩ := mstr_none h0
        rw [decide_eq_true h0] at hR
        have HRR := Lib.hid (show R = false by rw [hR]; simp)
        clear hR h0
        go_wp2
        go_ret
        exact ⟨mretB HRR.out.symm, HB.out⟩
      · obtain ⟨s1, s2, s3⟩ := mstr_some h0
        rw [decide_eq_false h0, Bool.not_false, Bool.true_and] at hR
        have HRR := Lib.hid hR
        clear hR h0
        go_wp2
        go_roundw
        case rel => exact ⟨i + 1, by omega, by go_num, HRR.out, HB.out⟩
        case measure => simp [RowKit.intOf]; omega
    · obtain rfl : i = l.length := by omega
      have hiz : ¬ (l.length : Int) < (l.length : Int) := by omega
      rw [List.drop_length, List.all_nil, Bool.true_and] at hR
      have cV := HV.out wr hb
      have HB := Lib.hid hb
      clear hb
      by_cases h64 : l.length ≤ 64
      · have h64z : (l.length : Int) ≤ 64 := by omega
        rw [decide_eq_true h64, Bool.true_and] at hR
        have HRR := Lib.hid hR
        clear hR
        go_wp2_with (first | (go_at_call 45; refine cV.mono ?_; rintro e w1 ⟨rfl, b1⟩))
        go_ret
        exact ⟨mretB (by rw [HRR.out]), HB.out.trans (b1.mono HB.out.size)⟩
      · have h64z : ¬ (l.length : Int) ≤ 64 := by omega
        rw [decide_eq_false h64, Bool.false_and] at hR
        have HRR := Lib.hid hR
        clear hR
        go_wp2
        go_ret
        exact ⟨mretB HRR.out.symm, HB.out⟩
theorem okF_code (f : FeedD) : okF f = ((decide (f.path.length ≤ 64) && f.path.all okName) && (okName f.id && ([f.title, f.link].all validB && (inTB f.upd && okEs [] f.ents)))) := by
  unfold okF
  rw [List.all_cons, List.all_cons, List.all_nil]
  rw [show okName f.id = (!decide (f.id.size = 0) && validB f.id) from rfl]
  generalize validB f.id = a
  generalize validB f.title = b
  generalize validB f.link = c
  generalize decide (f.id.size = 0) = d
  generalize inTB f.upd = g
  generalize decide (f.path.length ≤ 64) = h
  generalize f.path.all okName = k
  generalize okEs [] f.ents = m
  cases a <;> cases b <;> cases c <;> cases d <;> cases g <;> cases h <;> cases k <;> cases m <;> rfl
set_option maxRecDepth 100000 in
set_option maxHeartbeats 4000000 in
theorem mc_validFeed (f : FeedD) (v : Value) (w : World) (hf : FeedIs w f v) (hz : FSz f) (hT : HasUtf8 w) : Calls Tryz.prog 22 #[v] w fun e w' => e = .returned (.bool (okF f)) ∧ Below w.heap.size w w' := by
  obtain ⟨p1, c1, q1, d1, rfl, hp1, he1⟩ := hf
  obtain ⟨W1, hW1⟩ : ∃ W1, W1 = w.alloc (.cells #[.slice p1 f.path.length c1, .string f.id, .string f.title, .string f.link, .int .i64 f.upd, .slice q1 f.ents.length d1] 30) := ⟨_, rfl⟩
  have hX : FBox W1 w.heap.size f p1 c1 q1 d1 := by rw [hW1]; exact FBox.new w f p1 c1 q1 d1
  have hB : Below w.heap.size w W1 := by rw [hW1]; exact (Below.refl _ _).alloc (Nat.le_refl _) _
  have cP := mc_validPath f.path p1 c1 W1 (hp1.below hB) hz.path hz.plen (mu_below hT hB)
  have cI := fun wx (hT : HasUtf8 wx) => mc_validID f.id wx hz.id hT
  have cS := fun wx (hT : HasUtf8 wx) => mc_validStrings [f.title, f.link] _ 2 _ (nam_two wx f.title f.link) (fun t ht => by
    simp only [List.mem_cons, List.not_mem_nil, or_false] at ht
    rcases ht with rfl | rfl
    · exact hz.title
    · exact hz.link) (by simp) (mu_below hT ((Below.refl _ _).alloc (Nat.le_refl _) _))
  have cT := fun wx => mc_validTime f.upd wx
  have cE := fun wx (he : EntsAt wx q1 f.ents) (hT : HasUtf8 wx) => mc_listE f.ents q1 d1 wx he hz.ents hz.elen hT
  have HI := Lib.hid cI
  have HS := Lib.hid cS
  have HE := Lib.hid cE
  have HX := Lib.hid hX
  have HB := Lib.hid hB
  have HT := Lib.hid (mu_below hT hB)
  have HEN := Lib.hid (he1.below hB)
  obtain ⟨R, hR⟩ : ∃ R, okF f = R := ⟨_, rfl⟩
  rw [hR]
  rw [okF_code] at hR
  generalize (decide (f.path.length ≤ 64) && f.path.all okName) = v1 at *
  generalize okName f.id = v2 at *
  generalize [f.title, f.link].all validB = v3 at *
  generalize inTB f.upd = v4 at *
  generalize okEs [] f.ents = v5 at *
  have HR := Lib.hid hR
  obtain ⟨e0, e1, e2, e3, e4, e5⟩ := hX
  clear hB hR hT hz cI cS cE hp1 he1
  go_enter Tryz.func22, Tryz.ntmps22
  go_upto_region 1 with fail
  simp only [← hW1]
  clear hW1
  go_wp2_with fail
  refine cP.mono ?_
  rintro e w2 ⟨rfl, b2⟩
  replace HX := Lib.hid (HX.out.below b2)
  replace HEN := Lib.hid (HEN.out.below b2)
  replace HT := Lib.hid (mu_below HT.out b2)
  replace HB := Lib.hid (HB.out.trans (b2.mono HB.out.size))
  have cI := HI.out w2 HT.out
  clear e0 e1 e2 e3 e4 e5 b2 cP
  obtain ⟨e0, e1, e2, e3, e4, e5⟩ := id HX.out
  cases v1
  · go_wp2
    go_ret
    exact ⟨mretB (by rw [← HR.out]; rfl), HB.out⟩
  go_wp2_with fail
  refine cI.mono ?_
  rintro e w3 ⟨rfl, b3⟩
  replace HX := Lib.hid (HX.out.below b3)
  replace HEN := Lib.hid (HEN.out.below b3)
  replace HT := Lib.hid (mu_below HT.out b3)
  replace HB := Lib.hid (HB.out.trans (b3.mono HB.out.size))
  have cS := HS.out w3 HT.out
  have hb4 : Below w3.heap.size w3 (w3.alloc (.cells #[.string f.title, .string f.link] 9)) := (Below.refl _ _).alloc (Nat.le_refl _) _
  have HX4 := Lib.hid (HX.out.below hb4)
  have HE4 := Lib.hid (HEN.out.below hb4)
  have HT4 := Lib.hid (mu_below HT.out hb4)
  have HB4 := Lib.hid (HB.out.trans (hb4.mono HB.out.size))
  clear e0 e1 e2 e3 e4 e5 b3 cI hb4
  obtain ⟨e0, e1, e2, e3, e4, e5⟩ := id HX.out
  cases v2
  · go_wp2
    go_ret
    exact ⟨mretB (by rw [← HR.out]; rfl), HB.out⟩
  go_wp2_with fail
  refine cS.mono ?_
  rintro e w5 ⟨rfl, b5⟩
  have HX5 := Lib.hid (HX4.out.below b5)
  have cE := HE.out w5 (HE4.out.below b5) (mu_below HT4.out b5)
  have HB5 := Lib.hid (HB4.out.trans (b5.mono HB4.out.size))
  clear e0 e1 e2 e3 e4 e5 b5 cS HX HX4 HB HB4
  obtain ⟨e0, e1, e2, e3, e4, e5⟩ := id HX5.out
  cases v3
  · go_wp2
    go_ret
    exact ⟨mretB (by rw [← HR.out]; rfl), HB5.out⟩
  go_wp2_with fail
  refine (cT _).mono ?_
  rintro e w6 ⟨rfl, rfl⟩
  cases v4
  · go_wp2
    go_ret
    exact ⟨mretB (by rw [← HR.out]; rfl), HB5.out⟩
  go_wp2_with fail
  refine cE.mono ?_
  rintro e w7 ⟨rfl, b7⟩
  have HB7 := Lib.hid (HB5.out.trans (b7.mono HB5.out.size))
  clear e0 e1 e2 e3 e4 e5 b7 cE
  go_wp2
  go_ret
  exact ⟨mretB (by rw [← HR.out]; rfl), HB7.out⟩
set_option maxRecDepth 100000 in
theorem mc_CheckFeed (f : FeedD) (v : Value) (w : World) (hf : FeedIs w f v) (hz : FSz f) (hT : HasUtf8 w) : Calls Tryz.prog 7 #[v] w fun e w' => e = .returned (.int .i64 (errZ (okF f))) ∧ Below w.heap.size w w' := by
  obtain ⟨p1, c1, q1, d1, rfl, hp1, he1⟩ := hf
  obtain ⟨W1, hW1⟩ : ∃ W1, W1 = w.alloc (.cells #[.slice p1 f.path.length c1, .string f.id, .string f.title, .string f.link, .int .i64 f.upd, .slice q1 f.ents.length d1] 30) := ⟨_, rfl⟩
  have hX : FBox W1 w.heap.size f p1 c1 q1 d1 := by rw [hW1]; exact FBox.new w f p1 c1 q1 d1
  have hB : Below w.heap.size w W1 := by rw [hW1]; exact (Below.refl _ _).alloc (Nat.le_refl _) _
  have cV := mc_validFeed f _ W1 ⟨p1, c1, q1, d1, rfl, hp1.below hB, he1.below hB⟩ hz (mu_below hT hB)
  have HB := Lib.hid hB
  have cI := fun wx => mc_invalid (okF f) wx
  generalize okF f = v at *
  obtain ⟨e0, e1, e2, e3, e4, e5⟩ := hX
  clear hB hT hz hp1 he1
  go_enter Tryz.func7, Tryz.ntmps7
  go_upto_region 1 with fail
  simp only [← hW1]
  clear hW1
  go_wp2_with fail
  refine cV.mono ?_
  rintro e w2 ⟨rfl, b2⟩
  have HB2 := Lib.hid (HB.out.trans (b2.mono HB.out.size))
  clear e0 e1 e2 e3 e4 e5 b2 cV
  go_wp2_with (first | (go_at_call 21; refine (cI _).mono ?_; rintro e w3 ⟨rfl, rfl⟩))
  go_ret
  exact ⟨rfl, HB2.out⟩
end Go.Proofs.YtggfblodjanfkaaGreatDoor
end
