/- Packed from the texts MdG MdH. -/
import Derived.Test.YtggfblodjanfkaaGreatDoorVk6
import Derived.Test.YtggfblodjanfkaaGreatDoorVkE
import Derived.Test.YtggfblodjanfkaaGreatDoorVkW
section
namespace Go.Proofs.YtggfblodjanfkaaGreatDoor
open Go.RowKit
def jnS : Bool → List ByteArray → List UInt8
  | _, [] => []
  | b, a :: r => (if b = true then [] else [44]) ++ (quoteJ a.data.toList ++ jnS false r)
def vaS (l : List ByteArray) : Bool := l.all fun s => vaL s.data.toList
def quS (l : List ByteArray) : List UInt8 := if vaS l = true then jnS true l else []
def quW : List ByteArray → Nat
  | [] => 0
  | a :: r => 6 * a.size + 3 + quW r
theorem quW_drop (l : List ByteArray) (i : Nat) (h : i < l.length) : quW (l.drop i) = 6 * l[i].size + 3 + quW (l.drop (i + 1)) := by rw [List.drop_eq_getElem_cons h, quW]
theorem jnS_len : ∀ (b : Bool) (l : List ByteArray), (jnS b l).length ≤ quW l
  | _, [] => Nat.le_refl _
  | b, a :: r => by
    rw [jnS, quW, List.length_append, List.length_append, quoteJ_len]
    have h1 := itemsJ_len a.data.toList
    have h2 := jnS_len false r
    have h3 : a.data.toList.length = a.size := by simp
    cases b
    · show 1 + _ ≤ _
      omega
    · show 0 + _ ≤ _
      omega
theorem mb_app (a b : List UInt8) : ofBytes a ++ ofBytes b = ofBytes (a ++ b) := (jb_app a b).symm
theorem mretS {a b : List UInt8} (h : a = b) : Ending.returned (.string (ofBytes a)) = .returned (.string (ofBytes b)) := by rw [h]
set_option maxRecDepth 100000 in
set_option maxHeartbeats 4000000 in
theorem mref_quote (l : List ByteArray) (p : Option Addr) (c : Nat) (w : World) (hl : NamAt w p l) (hs : ∀ s ∈ l, s.size ≤ 1000000) (hw : quW l ≤ 1000000000) (hn : l.length ≤ 100000000) :
    Calls Tryz.prog 56 #[.slice p l.length c] w fun e w' => e = .returned (.string (ofBytes (quS l))) ∧ Below w.heap.size w w' := by
  obtain ⟨rl, hrl⟩ : ∃ rl, quS l = rl := ⟨_, rfl⟩
  rw [hrl]
  have HR := Lib.hid (show rl = if vaS (l.drop 0) = true then [] ++ jnS (decide (0 = 0)) (l.drop 0) else [] by rw [← hrl]; rfl)
  have HL := Lib.hid hl
  have HS := Lib.hid hs
  have hnz : (l.length : Int) ≤ 100000000 := by omega
  have HW := Lib.hid hw
  clear hl hs hrl hw
  go_enter Tryz.func56, Tryz.ntmps56
  go_wp2
  go_loopw [3, 4] (fun s q wr => ∃ (i : Nat) (acc : List UInt8), i ≤ l.length ∧ q = .int .i64 (i : Int) ∧ s = .string (ofBytes acc) ∧ rl = (if vaS (l.drop i) = true then acc ++ jnS (decide (i = 0)) (l.drop i) else []) ∧ acc.length + quW (l.drop i) ≤ 1000000000 ∧ Below w.heap.size w wr) (fun _ q _ => l.length - (RowKit.intOf q).toNat)
  case atStart => exact ⟨0, [], Nat.zero_le _, rfl, rfl, HR.out, by rw [List.drop_zero]; simpa using HW.out, Below.refl _ _⟩
  case round =>
    clear HR
    obtain ⟨i, acc, hi, rfl, rfl, hR, hA, hb⟩ := hrel
    have hz := hb.size
    by_cases hlt : i < l.length
    · have hiz : (i : Int) < (l.length : Int) := by omega
      obtain ⟨a, rfl, ca⟩ := HL.out.below hb i hlt
      rw [quW_drop l i hlt] at hA
      rw [List.drop_eq_getElem_cons hlt] at hR
      obtain ⟨x, hx⟩ : ∃ x, l[i] = x := ⟨_, rfl⟩
      have hmem : x ∈ l := by rw [← hx]; exact List.getElem_mem _
      rw [hx] at ca hR hA
      have hxs := HS.out x hmem
      have cQ := fun wx => jref_Quote x wx hxs
      obtain ⟨aa, haa⟩ : ∃ aa, a.add i = aa := ⟨_, rfl⟩
      rw [haa] at ca
      have hql : (quoteJ x.data.toList).length ≤ 6 * x.size + 2 := by
        have h1 := itemsJ_len x.data.toList
        have h3 : x.data.toList.length = x.size := by simp
        rw [quoteJ_len]
        omega
      have hva : vaS (x :: l.drop (i + 1)) = (vaL x.data.toList && vaS (l.drop (i + 1))) := rfl
      rw [hva, jnS] at hR
      unfold quoteP at cQ
      clear hva hmem hx
      rcases hv : vaL x.data.toList with _ | _
      · rw [hv, if_neg (by simp)] at hR
        rw [hv, if_neg (by simp)] at cQ
        subst hR
        have HB := Lib.hid hb
        clear hb hv hA hql hxs
        go_wp2_with fail
        refine (cQ _).mono ?_
        rintro e w2 ⟨rfl, b2⟩
        go_wp2
        go_ret
        exact ⟨rfl, HB.out.trans (b2.mono hz)⟩
      · rw [hv, Bool.true_and] at hR
        rw [hv, if_pos rfl] at cQ
        simp only at cQ
        generalize quoteJ x.data.toList = Q at *
        have hzA : (ofBytes acc).size = acc.length := ofBytes_size _
        have hzQ : (ofBytes Q).size = Q.length := ofBytes_size _
        have s1 : ¬ 9223372036854775807 < (ofBytes acc).size + 1 := by omega
        have s2 : ¬ 9223372036854775807 < (ofBytes acc).size + 1 + (ofBytes Q).size := by omega
        have s3 : ¬ 9223372036854775807 < (ofBytes acc).size + (ofBytes Q).size := by omega
        have HB := Lib.hid hb
        have HA := Lib.hid hA
        have HQ := Lib.hid hql
        have HRR := Lib.hid hR
        clear hb hv hA hql hxs hR hzA hzQ
        by_cases h0 : i = 0
        · subst h0
          go_wp2_with fail
          refine (cQ _).mono ?_
          rintro e w2 ⟨rfl, b2⟩
          go_wp2
          go_roundw
          case rel => exact ⟨0 + 1, acc ++ Q, by omega, by go_num, by rw [mb_app], by rw [HRR.out]; simp, by rw [List.length_append]; have := HA.out; have := HQ.out; omega, HB.out.trans (b2.mono hz)⟩
          case measure => simp [RowKit.intOf]; omega
        · have h0z : (0 : Int) < (i : Int) := by omega
          go_wp2_with fail
          refine (cQ _).mono ?_
          rintro e w2 ⟨rfl, b2⟩
          go_wp2
          go_roundw
          case rel => exact ⟨i + 1, acc ++ ([44] ++ Q), by omega, by go_num, by rw [← List.append_assoc, ← mb_app, ← mb_app]; rfl, by rw [HRR.out]; simp [h0], by rw [List.length_append, List.length_append]; have := HA.out; have := HQ.out; simp; omega, HB.out.trans (b2.mono hz)⟩
          case measure => simp [RowKit.intOf]; omega
    · obtain rfl : i = l.length := by omega
      have hiz : ¬ (l.length : Int) < (l.length : Int) := by omega
      rw [List.drop_length, show vaS [] = true from rfl, if_pos rfl, jnS, List.append_nil] at hR
      subst hR
      have HB := Lib.hid hb
      clear hb hA
      go_wp2
      go_ret
      exact ⟨rfl, HB.out⟩
end Go.Proofs.YtggfblodjanfkaaGreatDoor
end
section
namespace Go.Proofs.YtggfblodjanfkaaGreatDoor
open Go.RowKit
def ekL (e : EntD) : List UInt8 := if vaS [e.id, e.title, e.link, e.content] = true then 91 :: (jnS true [e.id, e.title, e.link, e.content] ++ (44 :: (Lib.itoa e.upd ++ [93]))) else []
def fkL (f : FeedD) : List UInt8 := if (vaS f.path && vaS [f.id, f.title, f.link]) = true then 91 :: 91 :: (jnS true f.path ++ (93 :: 44 :: (jnS true [f.id, f.title, f.link] ++ (44 :: (Lib.itoa f.upd ++ [93]))))) else []
theorem jnS_head (a : ByteArray) (r : List ByteArray) : ∃ t, jnS true (a :: r) = 34 :: t := by
  rw [jnS]
  unfold quoteJ
  exact ⟨_, rfl⟩
theorem nam_four (w : World) (a b c d : ByteArray) : NamAt (w.alloc (.cells #[.string a, .string b, .string c, .string d] 9)) (some ⟨w.heap.size, 0, none⟩) [a, b, c, d] := by
  have h := heap_alloc_new w (.cells #[.string a, .string b, .string c, .string d] 9)
  intro i hi
  refine ⟨_, rfl, ?_⟩
  match i, hi with
  | 0, _ => exact cell_of_row _ _ 0 _ _ _ h
  | 1, _ => exact cell_of_row _ _ 1 _ _ _ h
  | 2, _ => exact cell_of_row _ _ 2 _ _ _ h
  | 3, _ => exact cell_of_row _ _ 3 _ _ _ h
theorem nam_three (w : World) (a b c : ByteArray) : NamAt (w.alloc (.cells #[.string a, .string b, .string c] 9)) (some ⟨w.heap.size, 0, none⟩) [a, b, c] := by
  have h := heap_alloc_new w (.cells #[.string a, .string b, .string c] 9)
  intro i hi
  refine ⟨_, rfl, ?_⟩
  match i, hi with
  | 0, _ => exact cell_of_row _ _ 0 _ _ _ h
  | 1, _ => exact cell_of_row _ _ 1 _ _ _ h
  | 2, _ => exact cell_of_row _ _ 2 _ _ _ h
theorem mb_none : (ofBytes []).toList.isEmpty = true ∧ ((ofBytes []).toList == []) = true ∧ (ofBytes []).toList = [] := mstr_none (by rw [ofBytes_size]; rfl)
theorem mb_some {l : List UInt8} (h : l ≠ []) : (ofBytes l).toList.isEmpty = false ∧ ((ofBytes l).toList == []) = false ∧ ¬ (ofBytes l).toList = [] := mstr_some (by rw [ofBytes_size]; exact fun e => h (List.length_eq_zero_iff.1 e))
set_option maxRecDepth 100000 in
set_option maxHeartbeats 4000000 in
theorem mref_FeedKey (f : FeedD) (v : Value) (w : World) (hf : FeedIs w f v) (hs : ∀ s ∈ f.path, s.size ≤ 1000000) (hw : quW f.path ≤ 100000000) (hn : f.path.length ≤ 100000000) (h1 : f.id.size ≤ 1000000) (h2 : f.title.size ≤ 1000000) (h3 : f.link.size ≤ 1000000) (u0 : -9223372036854775808 ≤ f.upd) (u1 : f.upd ≤ 9223372036854775807) : Calls Tryz.prog 34 #[v] w fun e w' => e = .returned (.string (ofBytes (fkL f))) ∧ Below w.heap.size w w' := by
  obtain ⟨p1, c1, q1, d1, rfl, hp1, -⟩ := hf
  obtain ⟨rl, hrl⟩ : ∃ rl, fkL f = rl := ⟨_, rfl⟩
  rw [hrl]
  unfold fkL at hrl
  obtain ⟨W1, hW1⟩ : ∃ W1, W1 = w.alloc (.cells #[.slice p1 f.path.length c1, .string f.id, .string f.title, .string f.link, .int .i64 f.upd, .slice q1 f.ents.length d1] 30) := ⟨_, rfl⟩
  have hX : FBox W1 w.heap.size f p1 c1 q1 d1 := by rw [hW1]; exact FBox.new w f p1 c1 q1 d1
  have hB : Below w.heap.size w W1 := by rw [hW1]; exact (Below.refl _ _).alloc (Nat.le_refl _) _
  have hqw : quW [f.id, f.title, f.link] ≤ 100000000 := by simp only [quW]; omega
  have cP := mref_quote f.path p1 c1 W1 (hp1.below hB) hs (by omega) hn
  have cQ := fun wx => mref_quote [f.id, f.title, f.link] _ 3 _ (nam_three wx f.id f.title f.link) (fun s hs => by
    simp only [List.mem_cons, List.not_mem_nil, or_false] at hs
    rcases hs with rfl | rfl | rfl <;> assumption) (by omega) (by show 3 ≤ _; omega)
  rw [show [f.id, f.title, f.link].length = 3 from rfl] at cQ
  have cD := fun wx => jref_Decimal f.upd wx u0 u1
  have hdl := itoa_len f.upd u0 u1
  have hjl := jnS_len true [f.id, f.title, f.link]
  have hkl := Nat.le_trans (jnS_len true f.path) hw
  have hjn : jnS true [f.id, f.title, f.link] ≠ [] := by
    obtain ⟨t, ht⟩ := jnS_head f.id [f.title, f.link]
    rw [ht]
    simp
  have hkn : f.path ≠ [] → jnS true f.path ≠ [] := fun h => by
    obtain ⟨a, r, hr⟩ := List.exists_cons_of_ne_nil h
    obtain ⟨t, ht⟩ := jnS_head a r
    rw [hr, ht]
    simp
  have hkz : f.path = [] → jnS true f.path = [] ∧ vaS f.path = true := fun h => by rw [h]; exact ⟨rfl, rfl⟩
  have hnz : f.path ≠ [] → (0 : Int) < (f.path.length : Int) := fun h => by
    have := List.length_pos_iff.2 h
    omega
  have hnz2 : f.path = [] → ¬ (0 : Int) < (f.path.length : Int) := fun h => by rw [h]; simp
  unfold quS at cQ cP
  generalize jnS true [f.id, f.title, f.link] = J at *
  generalize vaS [f.id, f.title, f.link] = va at *
  generalize Lib.itoa f.upd = D at *
  have HX := Lib.hid hX
  have HB := Lib.hid hB
  have HR := Lib.hid hrl
  have HKZ := Lib.hid hkz
  have HKN := Lib.hid hkn
  have HNZ := Lib.hid hnz
  have HNY := Lib.hid hnz2
  generalize jnS true f.path = K at *
  generalize vaS f.path = vk at *
  have bA : ∀ (wx : World) (o : Obj), Below wx.heap.size wx (wx.alloc o) := fun wx o => (Below.refl _ _).alloc (Nat.le_refl _) o
  have HA := Lib.hid bA
  obtain ⟨e0, e1, e2, e3, e4, e5⟩ := hX
  clear hB hrl bA h1 h2 h3 u0 u1 hp1 hs hkz hkn hnz hnz2 hw
  obtain ⟨b0, hb0⟩ : ∃ b, b = decide (f.path = []) := ⟨_, rfl⟩
  cases va
  · rw [if_neg (by simp)] at cQ
    obtain ⟨z1, z2, z3⟩ := mb_none
    generalize (if vk = true then K else []) = kp at cP
    go_enter Tryz.func34, Tryz.ntmps34
    go_upto_region 1 with fail
    simp only [← hW1]
    clear hW1
    go_wp2_with fail
    refine cP.mono ?_
    rintro e w2 ⟨rfl, b2⟩
    have X2 := HX.out.below b2
    have HX2 := Lib.hid X2
    obtain ⟨k0, k1, k2, k3, k4, k5⟩ := X2
    have HB2 := Lib.hid (HB.out.trans (b2.mono HB.out.size))
    clear e0 e1 e2 e3 e4 e5 cP b2
    go_wp2_with fail
    refine (cQ _).mono ?_
    rintro e w3 ⟨rfl, b3⟩
    have b23 := (HA.out w2 _).trans (b3.mono (HA.out w2 _).size)
    have HB3 := Lib.hid (HB2.out.trans (b23.mono HB2.out.size))
    have X3 := HX2.out.below b23
    clear k0 k1 k2 k3 k4 k5 cQ b3 b23
    obtain ⟨k0, k1, k2, k3, k4, k5⟩ := X3
    go_wp2
    go_ret
    exact ⟨mretS (by rw [← HR.out]; simp), HB3.out⟩
  · rw [if_pos rfl] at cQ
    obtain ⟨z1, z2, z3⟩ := mb_some hjn
    cases vk
    · have hne : f.path ≠ [] := fun e => by have := (HKZ.out e).2; cases this
      have hp0 := HNZ.out hne
      rw [if_neg (by simp)] at cP
      obtain ⟨y1, y2, y3⟩ := mb_none
      go_enter Tryz.func34, Tryz.ntmps34
      go_upto_region 1 with fail
      simp only [← hW1]
      clear hW1
      go_wp2_with fail
      refine cP.mono ?_
      rintro e w2 ⟨rfl, b2⟩
      have X2 := HX.out.below b2
      have HX2 := Lib.hid X2
      obtain ⟨k0, k1, k2, k3, k4, k5⟩ := X2
      have HB2 := Lib.hid (HB.out.trans (b2.mono HB.out.size))
      clear e0 e1 e2 e3 e4 e5 cP b2
      go_wp2_with fail
      refine (cQ _).mono ?_
      rintro e w3 ⟨rfl, b3⟩
      have b23 := (HA.out w2 _).trans (b3.mono (HA.out w2 _).size)
      have HB3 := Lib.hid (HB2.out.trans (b23.mono HB2.out.size))
      have X3 := HX2.out.below b23
      clear k0 k1 k2 k3 k4 k5 cQ b3 b23
      obtain ⟨k0, k1, k2, k3, k4, k5⟩ := X3
      go_wp2
      go_ret
      exact ⟨mretS (by rw [← HR.out]; simp), HB3.out⟩
    · rw [if_pos rfl] at cP
      have zJ : (ofBytes J).size = J.length := ofBytes_size _
      have zK : (ofBytes K).size = K.length := ofBytes_size _
      have zD : (ofBytes D).size = D.length := ofBytes_size _
      have s1 : ¬ 9223372036854775807 < 2 + (ofBytes K).size := by omega
      have s2 : ¬ 9223372036854775807 < 2 + (ofBytes K).size + 2 := by omega
      have s3 : ¬ 9223372036854775807 < 2 + (ofBytes K).size + 2 + (ofBytes J).size := by omega
      have s4 : ¬ 9223372036854775807 < 2 + (ofBytes K).size + 2 + (ofBytes J).size + 1 := by omega
      have s5 : ¬ 9223372036854775807 < 2 + (ofBytes K).size + 2 + (ofBytes J).size + 1 + (ofBytes D).size := by omega
      have s6 : ¬ 9223372036854775807 < 2 + (ofBytes K).size + 2 + (ofBytes J).size + 1 + (ofBytes D).size + 1 := by omega
      have HN := Lib.hid (show (⟨#[91, 91]⟩ : ByteArray) ++ ofBytes K ++ (⟨#[93, 44]⟩ : ByteArray) ++ ofBytes J ++ (⟨#[44]⟩ : ByteArray) ++ ofBytes D ++ (⟨#[93]⟩ : ByteArray) = ofBytes rl by
        rw [← HR.out, Bool.true_and, if_pos rfl, show (91 : UInt8) :: 91 :: (K ++ (93 :: 44 :: (J ++ (44 :: (D ++ [93]))))) = (((((([91, 91] ++ K) ++ [93, 44]) ++ J) ++ [44]) ++ D) ++ [93]) by simp, jb_app, jb_app, jb_app, jb_app, jb_app, jb_app]
        rfl)
      clear zJ zK zD hjl hdl hqw hjn hkl
      by_cases hpn : f.path = []
      · have hp0 := HNY.out hpn
        have hK := (HKZ.out hpn).1
        subst hK
        obtain ⟨y1, y2, y3⟩ := mb_none
        clear hpn hb0
        go_enter Tryz.func34, Tryz.ntmps34
        go_upto_region 1 with fail
        simp only [← hW1]
        clear hW1
        go_wp2_with fail
        refine cP.mono ?_
        rintro e w2 ⟨rfl, b2⟩
        have X2 := HX.out.below b2
        have HX2 := Lib.hid X2
        obtain ⟨k0, k1, k2, k3, k4, k5⟩ := X2
        have HB2 := Lib.hid (HB.out.trans (b2.mono HB.out.size))
        clear e0 e1 e2 e3 e4 e5 cP b2
        go_wp2_with fail
        refine (cQ _).mono ?_
        rintro e w3 ⟨rfl, b3⟩
        have b23 := (HA.out w2 _).trans (b3.mono (HA.out w2 _).size)
        have HB3 := Lib.hid (HB2.out.trans (b23.mono HB2.out.size))
        have X3 := HX2.out.below b23
        clear k0 k1 k2 k3 k4 k5 cQ b3 b23
        obtain ⟨k0, k1, k2, k3, k4, k5⟩ := X3
        go_wp2_with fail
        refine (cD _).mono ?_
        rintro e w4 ⟨rfl, b4⟩
        have B4 := HB3.out.trans (b4.mono HB3.out.size)
        go_wp2
        go_ret
        exact ⟨congrArg (fun s => Ending.returned (Value.string s)) HN.out, B4⟩
      · obtain ⟨y1, y2, y3⟩ := mb_some (HKN.out hpn)
        clear hpn hb0
        go_enter Tryz.func34, Tryz.ntmps34
        go_upto_region 1 with fail
        simp only [← hW1]
        clear hW1
        go_wp2_with fail
        refine cP.mono ?_
        rintro e w2 ⟨rfl, b2⟩
        have X2 := HX.out.below b2
        have HX2 := Lib.hid X2
        obtain ⟨k0, k1, k2, k3, k4, k5⟩ := X2
        have HB2 := Lib.hid (HB.out.trans (b2.mono HB.out.size))
        clear e0 e1 e2 e3 e4 e5 cP b2
        go_wp2_with fail
        refine (cQ _).mono ?_
        rintro e w3 ⟨rfl, b3⟩
        have b23 := (HA.out w2 _).trans (b3.mono (HA.out w2 _).size)
        have HB3 := Lib.hid (HB2.out.trans (b23.mono HB2.out.size))
        have X3 := HX2.out.below b23
        clear k0 k1 k2 k3 k4 k5 cQ b3 b23
        obtain ⟨k0, k1, k2, k3, k4, k5⟩ := X3
        go_wp2_with fail
        refine (cD _).mono ?_
        rintro e w4 ⟨rfl, b4⟩
        have B4 := HB3.out.trans (b4.mono HB3.out.size)
        go_wp2
        go_ret
        exact ⟨congrArg (fun s => Ending.returned (Value.string s)) HN.out, B4⟩
end Go.Proofs.YtggfblodjanfkaaGreatDoor
end
