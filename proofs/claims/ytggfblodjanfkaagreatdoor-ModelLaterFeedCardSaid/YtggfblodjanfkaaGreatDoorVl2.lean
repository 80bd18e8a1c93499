/- Packed from the texts MeA MeC. -/
import Derived.Test.YtggfblodjanfkaaGreatDoorVk5
import Derived.Test.YtggfblodjanfkaaGreatDoorVk6
import Derived.Test.YtggfblodjanfkaaGreatDoorVk7
import Derived.Test.YtggfblodjanfkaaGreatDoorVk8
section
namespace Go.Proofs.YtggfblodjanfkaaGreatDoor
open Go.RowKit
theorem mc_nanI (t : Int) (w : World) : Calls Tryz.prog 58 #[.int .i64 t] w fun e w' => e = .returned (.bool false) ∧ w = w' := by
  go_enter Tryz.func58, Tryz.ntmps58
  go_wp2
  go_ret
  exact ⟨retb (by simp), rfl⟩
theorem mc_nanS (s : ByteArray) (w : World) : Calls Tryz.prog 59 #[.string s] w fun e w' => e = .returned (.bool false) ∧ w = w' := by
  go_enter Tryz.func59, Tryz.ntmps59
  go_wp2
  go_ret
  exact ⟨retb (by simp), rfl⟩
theorem mc_int (a b : Int) (w : World) : Calls Tryz.prog 36 #[.int .i64 a, .int .i64 b] w fun e w' => e = .returned (.int .i64 (cmpU b a)) ∧ w = w' := by
  have c1 := fun wx => mc_nanI a wx
  have c2 := fun wx => mc_nanI b wx
  unfold cmpU
  by_cases h1 : a < b
  · rw [if_pos h1]
    go_enter Tryz.func36, Tryz.ntmps36
    go_wp2_with (first | (go_at_call_of 58 (Value.int .i64 a); refine (c1 _).mono ?_; rintro e w1 ⟨rfl, rfl⟩) | (go_at_call_of 58 (Value.int .i64 b); refine (c2 _).mono ?_; rintro e w1 ⟨rfl, rfl⟩))
    go_ret
    exact ⟨rfl, rfl⟩
  · rw [if_neg h1]
    by_cases h2 : b < a
    · rw [if_pos h2]
      go_enter Tryz.func36, Tryz.ntmps36
      go_wp2_with (first | (go_at_call_of 58 (Value.int .i64 a); refine (c1 _).mono ?_; rintro e w1 ⟨rfl, rfl⟩) | (go_at_call_of 58 (Value.int .i64 b); refine (c2 _).mono ?_; rintro e w1 ⟨rfl, rfl⟩))
      go_ret
      exact ⟨rfl, rfl⟩
    · rw [if_neg h2]
      go_enter Tryz.func36, Tryz.ntmps36
      go_wp2_with (first | (go_at_call_of 58 (Value.int .i64 a); refine (c1 _).mono ?_; rintro e w1 ⟨rfl, rfl⟩) | (go_at_call_of 58 (Value.int .i64 b); refine (c2 _).mono ?_; rintro e w1 ⟨rfl, rfl⟩))
      go_ret
      exact ⟨rfl, rfl⟩
theorem mc_string (a b : ByteArray) (w : World) : Calls Tryz.prog 37 #[.string a, .string b] w fun e w' => e = .returned (.int .i64 (cmpS a b)) ∧ w = w' := by
  have c1 := fun wx => mc_nanS a wx
  have c2 := fun wx => mc_nanS b wx
  have hR : cmpS a b = if Op.bytesLess a.toList b.toList = true then -1 else if Op.bytesLess b.toList a.toList = true then 1 else 0 := by
    rw [ByteArray.toList_eq, ByteArray.toList_eq]
    rfl
  rw [hR]
  clear hR
  have hirr : Op.bytesLess a.toList b.toList = false → Op.bytesLess b.toList a.toList = false → a.toList = b.toList := fun h1 h2 => bl_total _ _ h1 h2
  have hirr2 : Op.bytesLess b.toList a.toList = true → ¬ b.toList = a.toList := fun h1 h2 => by
    rw [h2, bl_irr] at h1
    cases h1
  have H1 := Lib.hid hirr
  have H2 := Lib.hid hirr2
  clear hirr hirr2
  cases hx : Op.bytesLess a.toList b.toList
  · rw [if_neg (by simp)]
    cases hy : Op.bytesLess b.toList a.toList
    · rw [if_neg (by simp)]
      obtain rfl : a = b := by
        have := H1.out hx hy
        rw [ByteArray.toList_eq, ByteArray.toList_eq] at this
        exact ByteArray.ext (Array.ext' this)
      go_enter Tryz.func37, Tryz.ntmps37
      go_wp2_with (first | (go_at_call 59; refine (c1 _).mono ?_; rintro e w1 ⟨rfl, rfl⟩))
      go_ret
      exact ⟨rfl, rfl⟩
    · rw [if_pos rfl]
      have n1 : ¬ b.toList = a.toList := H2.out hy
      have n2 : (b.toList == a.toList) = false := beq_eq_false_iff_ne.2 n1
      have n3 : ¬ a.toList = b.toList := fun e => n1 e.symm
      have n4 : (a.toList == b.toList) = false := beq_eq_false_iff_ne.2 n3
      go_enter Tryz.func37, Tryz.ntmps37
      go_wp2_with (first | (go_at_call_of 59 (Value.string a); refine (c1 _).mono ?_; rintro e w1 ⟨rfl, rfl⟩) | (go_at_call_of 59 (Value.string b); refine (c2 _).mono ?_; rintro e w1 ⟨rfl, rfl⟩))
      go_ret
      exact ⟨rfl, rfl⟩
  · rw [if_pos rfl]
    go_enter Tryz.func37, Tryz.ntmps37
    go_wp2_with (first | (go_at_call_of 59 (Value.string a); refine (c1 _).mono ?_; rintro e w1 ⟨rfl, rfl⟩) | (go_at_call_of 59 (Value.string b); refine (c2 _).mono ?_; rintro e w1 ⟨rfl, rfl⟩))
    go_ret
    exact ⟨rfl, rfl⟩
set_option maxRecDepth 100000 in
set_option maxHeartbeats 4000000 in
theorem mc_slices (l m : List ByteArray) (p : Option Addr) (c : Nat) (q : Option Addr) (d : Nat) (w : World) (hl : NamAt w p l) (hm : NamAt w q m) (h1 : l.length ≤ 100000000) (h2 : m.length ≤ 100000000) :
    Calls Tryz.prog 35 #[.slice p l.length c, .slice q m.length d] w fun e w' => e = .returned (.int .i64 (cmpP l m)) ∧ Below w.heap.size w w' := by
  obtain ⟨R, hR⟩ : ∃ R, cmpP l m = R := ⟨_, rfl⟩
  rw [hR]
  have HR := Lib.hid hR.symm
  have HL := Lib.hid hl
  have HM := Lib.hid hm
  have h1z : (l.length : Int) ≤ 100000000 := by omega
  have h2z : (m.length : Int) ≤ 100000000 := by omega
  clear hl hm hR
  go_enter Tryz.func35, Tryz.ntmps35
  go_wp2
  go_loopw [11] (fun v wr => ∃ i : Nat, i ≤ l.length ∧ i ≤ m.length ∧ v = .int .i64 (i : Int) ∧ R = cmpP (l.drop i) (m.drop i) ∧ Below w.heap.size w wr) (fun v _ => l.length - (RowKit.intOf v).toNat)
  case atStart => exact ⟨0, Nat.zero_le _, Nat.zero_le _, rfl, HR.out, Below.refl _ _⟩
  case round =>
    clear HR
    obtain ⟨i, hi, hj, rfl, hR, hb⟩ := hrel
    have hz := hb.size
    by_cases hli : i < l.length
    · have hiz : (i : Int) < (l.length : Int) := by omega
      obtain ⟨a, rfl, ca⟩ := HL.out.below hb i hli
      obtain ⟨aa, haa⟩ : ∃ aa, a.add i = aa := ⟨_, rfl⟩
      rw [haa] at ca
      by_cases hmi : i < m.length
      · have hjz : (i : Int) < (m.length : Int) := by omega
        have hjz2 : ¬ (m.length : Int) ≤ (i : Int) := by omega
        obtain ⟨b, rfl, cb⟩ := HM.out.below hb i hmi
        rw [List.drop_eq_getElem_cons hli, List.drop_eq_getElem_cons hmi, cmpP] at hR
        obtain ⟨x, hx⟩ : ∃ x, l[i] = x := ⟨_, rfl⟩
        obtain ⟨y, hy⟩ : ∃ y, m[i] = y := ⟨_, rfl⟩
        rw [hx] at ca hR
        rw [hy] at cb hR
        clear hx hy
        obtain ⟨bb, hbb⟩ : ∃ bb, b.add i = bb := ⟨_, rfl⟩
        rw [hbb] at cb
        have cC := fun wx => mc_string x y wx
        have HB := Lib.hid hb
        generalize cmpS x y = C at *
        by_cases hC : C = 0
        · subst hC
          rw [show lexI 0 (cmpP (l.drop (i + 1)) (m.drop (i + 1))) = cmpP (l.drop (i + 1)) (m.drop (i + 1)) from rfl] at hR
          have HRR := Lib.hid hR
          clear hR hb
          go_wp2_with (first | (go_at_call 37; refine (cC _).mono ?_; rintro e w1 ⟨rfl, rfl⟩))
          go_roundw
          case rel => exact ⟨i + 1, by omega, by omega, by go_num, HRR.out, HB.out⟩
          case measure => simp [RowKit.intOf]; omega
        · have hlex : R = C := by
            rw [hR]
            unfold lexI
            rw [if_neg hC]
          have HX := Lib.hid hlex
          clear hR hb hlex
          go_wp2_with (first | (go_at_call 37; refine (cC _).mono ?_; rintro e w1 ⟨rfl, rfl⟩))
          go_ret
          exact ⟨mretI HX.out.symm, HB.out⟩
      · obtain rfl : i = m.length := by omega
        have hjz : (m.length : Int) ≤ (m.length : Int) := by omega
        rw [List.drop_length, List.drop_eq_getElem_cons hli, show cmpP (l[m.length] :: l.drop (m.length + 1)) [] = 1 from rfl] at hR
        subst hR
        have HB := Lib.hid hb
        clear hb
        go_wp2
        go_ret
        exact ⟨rfl, HB.out⟩
    · obtain rfl : i = l.length := by omega
      have hiz : ¬ (l.length : Int) < (l.length : Int) := by omega
      rw [List.drop_length] at hR
      have HB := Lib.hid hb
      clear hb
      by_cases hmi : l.length < m.length
      · have hmz : (l.length : Int) < (m.length : Int) := by omega
        rw [List.drop_eq_getElem_cons hmi, show cmpP [] (m[l.length] :: m.drop (l.length + 1)) = -1 from rfl] at hR
        subst hR
        go_wp2
        go_ret
        exact ⟨rfl, HB.out⟩
      · have hmz : ¬ (l.length : Int) < (m.length : Int) := by omega
        rw [List.drop_eq_nil_of_le (by omega), show cmpP [] [] = 0 from rfl] at hR
        subst hR
        go_wp2
        go_ret
        exact ⟨rfl, HB.out⟩
theorem mc_paths (l m : List ByteArray) (p : Option Addr) (c : Nat) (q : Option Addr) (d : Nat) (w : World) (hl : NamAt w p l) (hm : NamAt w q m) (h1 : l.length ≤ 100000000) (h2 : m.length ≤ 100000000) :
    Calls Tryz.prog 17 #[.slice p l.length c, .slice q m.length d] w fun e w' => e = .returned (.int .i64 (cmpP l m)) ∧ Below w.heap.size w w' := by
  have cC := mc_slices l m p c q d w hl hm h1 h2
  generalize cmpP l m = R at *
  clear hl hm
  go_enter Tryz.func17, Tryz.ntmps17
  go_wp2_with (first | (go_at_call 35; refine cC.mono ?_; rintro e w1 ⟨rfl, b1⟩))
  go_ret
  exact ⟨rfl, b1⟩
set_option maxRecDepth 100000 in
theorem mc_cmpE (a b : EntD) (w : World) : Calls Tryz.prog 18 #[EntV a, EntV b] w fun e w' => e = .returned (.int .i64 (cmpE a b)) ∧ Below w.heap.size w w' := by
  obtain ⟨i1, t1, l1, c1, u1⟩ := a
  obtain ⟨i2, t2, l2, c2, u2⟩ := b
  unfold EntV cmpE
  dsimp only
  have cC := fun wx => mc_string i1 i2 wx
  have cU := fun wx => mc_int u2 u1 wx
  generalize cmpS i1 i2 = R at *
  generalize cmpU u1 u2 = U at *
  have hb : ∀ o o' : Obj, Below w.heap.size w ((w.alloc o).alloc o') := fun o o' => ((Below.refl _ _).alloc (Nat.le_refl _) o).alloc (by simp) o'
  have HB := Lib.hid hb
  clear hb
  by_cases h1 : U = 0
  · subst h1
    go_enter Tryz.func18, Tryz.ntmps18
    go_wp2_with (first | (go_at_call 36; refine (cU _).mono ?_; rintro e w1 ⟨rfl, rfl⟩) | (go_at_call 37; refine (cC _).mono ?_; rintro e w1 ⟨rfl, rfl⟩))
    go_ret
    exact ⟨rfl, HB.out _ _⟩
  · have hl : lexI U R = U := by
      unfold lexI
      rw [if_neg h1]
    rw [hl]
    clear hl
    go_enter Tryz.func18, Tryz.ntmps18
    go_wp2_with (first | (go_at_call 36; refine (cU _).mono ?_; rintro e w1 ⟨rfl, rfl⟩))
    go_ret
    exact ⟨rfl, HB.out _ _⟩
set_option maxRecDepth 100000 in
theorem mc_cmpF (f g : FeedD) (v u : Value) (w : World) (hf : FeedIs w f v) (hg : FeedIs w g u) (h1 : f.path.length ≤ 100000000) (h2 : g.path.length ≤ 100000000) : Calls Tryz.prog 53 #[v, u] w fun e w' => e = .returned (.int .i64 (cmpF f g)) ∧ Below w.heap.size w w' := by
  obtain ⟨p1, c1, q1, d1, rfl, hp1, -⟩ := hf
  obtain ⟨p2, c2, q2, d2, rfl, hp2, -⟩ := hg
  unfold cmpF
  have cC := fun wx => mc_string f.id g.id wx
  have cP := fun wx a b => mc_paths f.path g.path p1 c1 p2 c2 wx a b h1 h2
  have hz := cmpP_zero f.path g.path
  generalize cmpP f.path g.path = R at *
  generalize cmpS f.id g.id = R2 at *
  obtain ⟨R3, hR3⟩ : ∃ R3, lexI R R2 = R3 := ⟨_, rfl⟩
  rw [hR3]
  have HR3 := Lib.hid hR3
  clear hR3
  obtain ⟨W2, hW2⟩ : ∃ W2, W2 = (w.alloc (.cells #[.slice p1 f.path.length c1, .string f.id, .string f.title, .string f.link, .int .i64 f.upd, .slice q1 f.ents.length d1] 30)).alloc (.cells #[.slice p2 g.path.length c2, .string g.id, .string g.title, .string g.link, .int .i64 g.upd, .slice q2 g.ents.length d2] 30) := ⟨_, rfl⟩
  have b2 : Below w.heap.size w W2 := by rw [hW2]; exact ((Below.refl _ _).alloc (Nat.le_refl _) _).alloc (by simp) _
  have b12 : Below (w.heap.size + 2) W2 W2 := Below.refl _ _
  have e1 : W2.cell? ⟨w.heap.size, 1, none⟩ = some (.string f.id) := by
    rw [hW2]
    exact mcell ((Below.refl _ _).alloc (Nat.le_refl _) _) (cell_of_row _ _ 1 _ _ _ (heap_alloc_new w _))
  have e2 : W2.cell? ⟨w.heap.size + 1, 1, none⟩ = some (.string g.id) := by
    rw [hW2]
    have := heap_alloc_new (w.alloc (.cells #[.slice p1 f.path.length c1, .string f.id, .string f.title, .string f.link, .int .i64 f.upd, .slice q1 f.ents.length d1] 30)) (.cells #[.slice p2 g.path.length c2, .string g.id, .string g.title, .string g.link, .int .i64 g.upd, .slice q2 g.ents.length d2] 30)
    rw [World.size_alloc] at this
    exact cell_of_row _ _ 1 _ _ _ this
  have e3 : W2.cell? ⟨w.heap.size, 0, none⟩ = some (.slice p1 f.path.length c1) := by
    rw [hW2]
    exact mcell ((Below.refl _ _).alloc (Nat.le_refl _) _) (cell_of_row _ _ 0 _ _ _ (heap_alloc_new w _))
  have e4 : W2.cell? ⟨w.heap.size + 1, 0, none⟩ = some (.slice p2 g.path.length c2) := by
    rw [hW2]
    have := heap_alloc_new (w.alloc (.cells #[.slice p1 f.path.length c1, .string f.id, .string f.title, .string f.link, .int .i64 f.upd, .slice q1 f.ents.length d1] 30)) (.cells #[.slice p2 g.path.length c2, .string g.id, .string g.title, .string g.link, .int .i64 g.upd, .slice q2 g.ents.length d2] 30)
    rw [World.size_alloc] at this
    exact cell_of_row _ _ 0 _ _ _ this
  have cP2 := cP W2 (hp1.below b2) (hp2.below b2)
  have HB := Lib.hid b2
  clear hp1 hp2 b2 b12 cP hz
  go_enter Tryz.func53, Tryz.ntmps53
  go_upto_region 1 with fail
  simp only [← hW2]
  clear hW2
  go_wp2_with fail
  refine cP2.mono ?_
  rintro e w3 ⟨rfl, b3⟩
  have g1 := mcell b3 e1
  have g2 := mcell b3 e2
  have HB3 := Lib.hid (HB.out.trans (b3.mono HB.out.size))
  clear e1 e2 e3 e4 cP2 b3
  by_cases h0 : R = 0
  · subst h0
    go_wp2_with fail
    refine (cC _).mono ?_
    rintro e w4 ⟨rfl, rfl⟩
    go_wp2
    go_ret
    exact ⟨mretI HR3.out, HB3.out⟩
  · go_wp2
    go_ret
    exact ⟨mretI (by rw [← HR3.out]; unfold lexI; rw [if_neg h0]), HB3.out⟩
end Go.Proofs.YtggfblodjanfkaaGreatDoor
end
section
namespace Go.Proofs.YtggfblodjanfkaaGreatDoor
open Go.RowKit
theorem mu_below {w w' : World} (h : HasUtf8 w) (hb : Below w.heap.size w w') : HasUtf8 w' := Utf8Tabs_below h hb
theorem nam_one (w : World) (a : ByteArray) : NamAt (w.alloc (.cells #[.string a] 9)) (some ⟨w.heap.size, 0, none⟩) [a] := by
  have h := heap_alloc_new w (.cells #[.string a] 9)
  intro i hi
  match i, hi with
  | 0, _ => exact ⟨_, rfl, cell_of_row _ _ 0 _ _ _ h⟩
theorem nam_two (w : World) (a b : ByteArray) : NamAt (w.alloc (.cells #[.string a, .string b] 9)) (some ⟨w.heap.size, 0, none⟩) [a, b] := by
  have h := heap_alloc_new w (.cells #[.string a, .string b] 9)
  intro i hi
  match i, hi with
  | 0, _ => exact ⟨_, rfl, cell_of_row _ _ 0 _ _ _ h⟩
  | 1, _ => exact ⟨_, rfl, cell_of_row _ _ 1 _ _ _ h⟩
set_option maxRecDepth 100000 in
set_option maxHeartbeats 4000000 in
theorem mc_validStrings (l : List ByteArray) (p : Option Addr) (c : Nat) (w : World) (hl : NamAt w p l) (hs : ∀ s ∈ l, s.size ≤ 70368744177664) (hn : l.length ≤ 100000000) (hT : HasUtf8 w) :
    Calls Tryz.prog 45 #[.slice p l.length c] w fun e w' => e = .returned (.bool (l.all validB)) ∧ Below w.heap.size w w' := by
  obtain ⟨R, hR⟩ : ∃ R, l.all validB = R := ⟨_, rfl⟩
  rw [hR]
  have hnz : (l.length : Int) ≤ 100000000 := by omega
  have HL := Lib.hid hl
  have HS := Lib.hid hs
  have HT := Lib.hid hT
  have HR := Lib.hid (show R = (l.drop 0).all validB from hR.symm)
  clear hl hs hT hR
  go_enter Tryz.func45, Tryz.ntmps45
  go_wp2
  go_loopw [7] (fun v wr => ∃ i : Nat, i ≤ l.length ∧ v = .int .i64 (i : Int) ∧ R = (l.drop i).all validB ∧ Below w.heap.size w wr) (fun v _ => l.length - (RowKit.intOf v).toNat)
  case atStart => exact ⟨0, Nat.zero_le _, rfl, HR.out, Below.refl _ _⟩
  case round =>
    clear HR
    obtain ⟨i, hi, rfl, hR, hb⟩ := hrel
    by_cases hlt : i < l.length
    · have hiz : (i : Int) < (l.length : Int) := by omega
      obtain ⟨a, rfl, ca⟩ := HL.out.below hb i hlt
      rw [List.drop_eq_getElem_cons hlt, List.all_cons] at hR
      obtain ⟨x, hx⟩ : ∃ x, l[i] = x := ⟨_, rfl⟩
      have hxs := HS.out x (by rw [← hx]; exact List.getElem_mem _)
      rw [hx] at ca hR
      clear hx
      obtain ⟨aa, haa⟩ : ∃ aa, a.add i = aa := ⟨_, rfl⟩
      rw [haa] at ca
      have cV := mt_Valid x wr hxs (mu_below HT.out hb)
      have HB := Lib.hid hb
      clear hb hxs
      rcases hv : validB x with _ | _
      · rw [hv] at hR cV
        have HRR := Lib.hid hR
        clear hR hv
        go_wp2_with (first | (go_at_call 62; refine cV.mono ?_; rintro e w1 ⟨rfl, b1⟩))
        go_ret
        exact ⟨mretB HRR.out.symm, HB.out.trans (b1.mono HB.out.size)⟩
      · rw [hv, Bool.true_and] at hR
        rw [hv] at cV
        have HRR := Lib.hid hR
        clear hR hv
        go_wp2_with (first | (go_at_call 62; refine cV.mono ?_; rintro e w1 ⟨rfl, b1⟩))
        go_roundw
        case rel => exact ⟨i + 1, by omega, by go_num, HRR.out, HB.out.trans (b1.mono HB.out.size)⟩
        case measure => simp [RowKit.intOf]; omega
    · obtain rfl : i = l.length := by omega
      have hiz : ¬ (l.length : Int) < (l.length : Int) := by omega
      rw [List.drop_length] at hR
      have HRR := Lib.hid (show R = true from hR)
      have HB := Lib.hid hb
      clear hb hR
      go_wp2
      go_ret
      exact ⟨mretB HRR.out.symm, HB.out⟩
set_option maxRecDepth 100000 in
theorem mc_validID (s : ByteArray) (w : World) (hs : s.size ≤ 70368744177664) (hT : HasUtf8 w) :
    Calls Tryz.prog 44 #[.string s] w fun e w' => e = .returned (.bool (okName s)) ∧ Below w.heap.size w w' := by
  unfold okName
  by_cases h0 : s.size = 0
  · obtain ⟨s1, s2, s3⟩ := mstr_none h0
    rw [decide_eq_true h0]
    clear h0
    go_enter Tryz.func44, Tryz.ntmps44
    go_wp2
    go_ret
    exact ⟨rfl, Below.refl _ _⟩
  · obtain ⟨s1, s2, s3⟩ := mstr_some h0
    rw [decide_eq_false h0]
    have hb : Below w.heap.size w (w.alloc (.cells #[.string s] 9)) := (Below.refl _ _).alloc (Nat.le_refl _) _
    have cV := mc_validStrings [s] _ 1 _ (nam_one w s) (fun t ht => by rw [List.mem_singleton.1 ht]; exact hs) (by simp) (mu_below hT hb)
    rw [List.all_cons, List.all_nil, Bool.and_true] at cV
    have HB := Lib.hid hb
    generalize validB s = v at *
    clear h0 hb
    go_enter Tryz.func44, Tryz.ntmps44
    go_wp2_with (first | (go_at_call 45; refine cV.mono ?_; rintro e w1 ⟨rfl, b1⟩))
    go_ret
    exact ⟨by cases v <;> rfl, HB.out.trans (b1.mono HB.out.size)⟩
theorem mc_validTime (t : Int) (w : World) : Calls Tryz.prog 46 #[.int .i64 t] w fun e w' => e = .returned (.bool (inTB t)) ∧ w = w' := by
  unfold inTB
  by_cases h1 : -62135596800 ≤ t
  · by_cases h2 : t ≤ 253402300799
    · rw [decide_eq_true (show -62135596800 ≤ t ∧ t ≤ 253402300799 from ⟨h1, h2⟩)]
      go_enter Tryz.func46, Tryz.ntmps46
      go_wp2
      go_ret
      exact ⟨rfl, rfl⟩
    · rw [decide_eq_false (show ¬ (-62135596800 ≤ t ∧ t ≤ 253402300799) from fun h => h2 h.2)]
      go_enter Tryz.func46, Tryz.ntmps46
      go_wp2
      go_ret
      exact ⟨rfl, rfl⟩
  · rw [decide_eq_false (show ¬ (-62135596800 ≤ t ∧ t ≤ 253402300799) from fun h => h1 h.1)]
    go_enter Tryz.func46, Tryz.ntmps46
    go_wp2
    go_ret
    exact ⟨rfl, rfl⟩
theorem mc_invalid (b : Bool) (w : World) : Calls Tryz.prog 21 #[.bool b] w fun e w' => e = .returned (.int .i64 (errZ b)) ∧ w = w' := by
  cases b
  · go_enter Tryz.func21, Tryz.ntmps21
    go_wp2
    go_ret
    exact ⟨rfl, rfl⟩
  · go_enter Tryz.func21, Tryz.ntmps21
    go_wp2
    go_ret
    exact ⟨rfl, rfl⟩
theorem okE_code (e : EntD) : okE e = (okName e.id && ([e.title, e.link, e.content].all validB && inTB e.upd)) := by
  unfold okE okName
  rw [List.all_cons, List.all_cons, List.all_cons, List.all_nil]
  generalize validB e.id = a
  generalize validB e.title = b
  generalize validB e.link = c
  generalize validB e.content = d
  generalize decide (e.id.size = 0) = f
  generalize inTB e.upd = g
  cases a <;> cases b <;> cases c <;> cases d <;> cases f <;> cases g <;> rfl
def ESz (x : EntD) : Prop := x.id.size ≤ 70368744177664 ∧ x.title.size ≤ 70368744177664 ∧ x.link.size ≤ 70368744177664 ∧ x.content.size ≤ 70368744177664
set_option maxRecDepth 100000 in
set_option maxHeartbeats 4000000 in
theorem mc_validEntry (x : EntD) (w : World) (hz : ESz x) (hT : HasUtf8 w) : Calls Tryz.prog 26 #[EntV x] w fun e w' => e = .returned (.bool (okE x)) ∧ Below w.heap.size w w' := by
  obtain ⟨h1, h2, h3, h4⟩ := hz
  obtain ⟨W1, hW1⟩ : ∃ W1, W1 = w.alloc (.cells #[.string x.id, .string x.title, .string x.link, .string x.content, .int .i64 x.upd] 35) := ⟨_, rfl⟩
  have hX : EBox W1 w.heap.size x := by rw [hW1]; exact EBox.new w x
  have hB : Below w.heap.size w W1 := by rw [hW1]; exact (Below.refl _ _).alloc (Nat.le_refl _) _
  have HX := Lib.hid hX
  have HB := Lib.hid hB
  have HT := Lib.hid (mu_below hT hB)
  have cI := mc_validID x.id W1 h1 HT.out
  have cS := fun wx (hT : HasUtf8 wx) => mc_validStrings [x.title, x.link, x.content] _ 3 _ (nam_three wx x.title x.link x.content) (fun t ht => by
    simp only [List.mem_cons, List.not_mem_nil, or_false] at ht
    rcases ht with rfl | rfl | rfl
    · exact h2
    · exact h3
    · exact h4) (by simp) (mu_below hT ((Below.refl _ _).alloc (Nat.le_refl _) _))
  have HS := Lib.hid cS
  have cT := fun wx => mc_validTime x.upd wx
  obtain ⟨R, hR⟩ : ∃ R, okE x = R := ⟨_, rfl⟩
  rw [hR]
  rw [okE_code] at hR
  generalize okName x.id = v1 at *
  generalize [x.title, x.link, x.content].all validB = v2 at *
  generalize inTB x.upd = v3 at *
  have HR := Lib.hid hR
  obtain ⟨e0, e1, e2, e3, e4⟩ := hX
  clear hB hR hT h1 h2 h3 h4 cS
  unfold EntV
  go_enter Tryz.func26, Tryz.ntmps26
  go_upto_region 1 with fail
  simp only [← hW1]
  clear hW1
  cases v1
  · go_wp2_with (first | (go_at_call 44; refine cI.mono ?_; rintro e w2 ⟨rfl, b2⟩))
    go_ret
    exact ⟨mretB (by rw [← HR.out]; rfl), HB.out.trans (b2.mono HB.out.size)⟩
  go_wp2_with fail
  refine cI.mono ?_
  rintro e w2 ⟨rfl, b2⟩
  have cS := HS.out w2 (mu_below HT.out b2)
  replace HX := Lib.hid (HX.out.below b2)
  replace HB := Lib.hid (HB.out.trans (b2.mono HB.out.size))
  have hb3 : Below w2.heap.size w2 (w2.alloc (.cells #[.string x.title, .string x.link, .string x.content] 9)) := (Below.refl _ _).alloc (Nat.le_refl _) _
  have HB3 := Lib.hid (HB.out.trans (hb3.mono HB.out.size))
  have HX3 := Lib.hid (HX.out.below hb3)
  clear e0 e1 e2 e3 e4 b2 cI hb3
  obtain ⟨e0, e1, e2, e3, e4⟩ := id HX.out
  go_wp2_with fail
  refine cS.mono ?_
  rintro e w3 ⟨rfl, b3⟩
  have e4' := (HX3.out.below b3).2.2.2.2
  have HB4 := Lib.hid (HB3.out.trans (b3.mono HB3.out.size))
  clear e0 e1 e2 e3 e4 b3 cS
  cases v2
  · go_wp2
    go_ret
    exact ⟨mretB (by rw [← HR.out]; rfl), HB4.out⟩
  · go_wp2_with (first | (go_at_call 46; refine (cT _).mono ?_; rintro e w4 ⟨rfl, rfl⟩))
    go_ret
    exact ⟨mretB (by rw [← HR.out]; cases v3 <;> rfl), HB4.out⟩
set_option maxRecDepth 100000 in
theorem mc_CheckEntry (x : EntD) (w : World) (hz : ESz x) (hT : HasUtf8 w) : Calls Tryz.prog 9 #[EntV x] w fun e w' => e = .returned (.int .i64 (errZ (okE x))) ∧ Below w.heap.size w w' := by
  obtain ⟨W1, hW1⟩ : ∃ W1, W1 = w.alloc (.cells #[.string x.id, .string x.title, .string x.link, .string x.content, .int .i64 x.upd] 35) := ⟨_, rfl⟩
  have hX : EBox W1 w.heap.size x := by rw [hW1]; exact EBox.new w x
  have hB : Below w.heap.size w W1 := by rw [hW1]; exact (Below.refl _ _).alloc (Nat.le_refl _) _
  have cV := mc_validEntry x W1 hz (mu_below hT hB)
  have HB := Lib.hid hB
  unfold EntV at cV ⊢
  have cI := fun wx => mc_invalid (okE x) wx
  generalize okE x = v at *
  obtain ⟨e0, e1, e2, e3, e4⟩ := hX
  clear hB hT hz
  go_enter Tryz.func9, Tryz.ntmps9
  go_upto_region 1 with fail
  simp only [← hW1]
  clear hW1
  go_wp2_with fail
  refine cV.mono ?_
  rintro e w2 ⟨rfl, b2⟩
  have HB2 := Lib.hid (HB.out.trans (b2.mono HB.out.size))
  clear e0 e1 e2 e3 e4 b2 cV
  go_wp2_with (first | (go_at_call 21; refine (cI _).mono ?_; rintro e w3 ⟨rfl, rfl⟩))
  go_ret
  exact ⟨rfl, HB2.out⟩
end Go.Proofs.YtggfblodjanfkaaGreatDoor
end
