/- Packed from the texts JpU JpV. -/
import Derived.Test.YtkkiklaoljdhhaaGreatDoorYJvE
import Derived.Test.YtkkiklaoljdhhaaGreatDoorYkM
import Derived.Test.YtkkiklaoljdhhaaGreatDoorYkN
section
namespace Go.Proofs.YtkkiklaoljdhhaaGreatDoor
open Go.RowKit
def eqI (l m : List ValD) : Bool := decide (l.length = m.length) && vsEq false l m
def eqM (l m : List MemD) : Bool := decide (l.length = m.length) && msEq false l m
theorem veq_code (n m : ValD) : n.eqB false m = (decide (n.kind = m.kind) && (decide (n.b = m.b) && (decide (n.n = m.n) && (decide (n.s = m.s) && (eqI n.items m.items && eqM n.mems m.mems))))) := by
  rw [veq_eq]
  unfold vheadEq eqI eqM
  by_cases h1 : n.kind = m.kind <;> by_cases h2 : n.b = m.b <;> by_cases h3 : n.n = m.n <;> by_cases h4 : n.s = m.s <;> by_cases h5 : n.items.length = m.items.length <;> by_cases h6 : n.mems.length = m.mems.length <;> simp [h1, h2, h3, h4, h5, h6]
def EqJ (f : Nat) : Prop := ∀ (n m : ValD) (v u : Value) (w : World), n.cnt ≤ f → n.cnt ≤ 1000000 → ValIs w n v → ValIs w m u → Calls Tryz.prog 18 #[v, u] w fun e w' => e = .returned (.bool (n.eqB false m)) ∧ Below w.heap.size w w'
set_option maxRecDepth 100000 in
set_option maxHeartbeats 16000000 in
theorem jp_eqItems (f : Nat) (hE : EqJ f) (l m : List ValD) (p q : Option Addr) (c d : Nat) (w : World) (hl : l.length ≤ 1000000) (hc : ∀ k ∈ l, k.cnt ≤ f ∧ k.cnt ≤ 1000000) (hp : ItemsAt w p 0 l) (hq : ItemsAt w q 0 m) :
    Calls Tryz.prog 38 #[.slice p l.length c, .slice q m.length d, .func (.func 18) #[] #[]] w fun e w' => e = .returned (.bool (eqI l m)) ∧ Below w.heap.size w w' := by
  have HE := Lib.hid hE
  have HC := Lib.hid hc
  have hlz : (l.length : Int) ≤ 1000000 := by omega
  by_cases hlen : l.length = m.length
  · have hR : eqI l m = vsEq false l m := by unfold eqI; rw [decide_eq_true hlen, Bool.true_and]
    rw [hR]
    have HLN := Lib.hid hlen
    have hlb : ((l.length : Int) != (m.length : Int)) = false := by simp [hlen]
    clear hE hc hlen hR
    go_enter Tryz.func38, Tryz.ntmps38
    go_wp2
    go_loopw [17] (fun vi wr => ∃ i : Nat, i ≤ l.length ∧ vi = .int .i64 i ∧ vsEq false l m = vsEq false (l.drop i) (m.drop i) ∧ Below w.heap.size w wr) (fun vi _ => l.length - (RowKit.intOf vi).toNat)
    case atStart => exact ⟨0, Nat.zero_le _, rfl, rfl, Below.refl _ _⟩
    case round =>
      obtain ⟨i, hi, rfl, hrel, hbr⟩ := hrel
      have hzr := hbr.size
      by_cases hlt : i < l.length
      · have hiz : (i : Int) < (l.length : Int) := by omega
        have hlt2 : i < m.length := by have := HLN.out; omega
        have hiz2 : (i : Int) < (m.length : Int) := by omega
        obtain ⟨a, p2, c2, q2, d2, rfl, ⟨a0, a1, a2, a3, a4, a5, a6⟩, hk⟩ := (hp.below hbr).cells i hlt
        obtain ⟨b, p3, c3, q3, d3, rfl, ⟨b0, b1, b2, b3, b4, b5, b6⟩, hk2⟩ := (hq.below hbr).cells i hlt2
        rw [vsEq_drop false l m i hlt hlt2] at hrel
        obtain ⟨x, hx⟩ : ∃ x, l[i] = x := ⟨_, rfl⟩
        obtain ⟨y, hy⟩ : ∃ y, m[i] = y := ⟨_, rfl⟩
        have hmem : x ∈ l := by rw [← hx]; exact List.getElem_mem _
        rw [hx] at hk a0 a1 a2 a3 a4 a5 a6 hrel
        rw [hy] at hk2 b0 b1 b2 b3 b4 b5 b6 hrel
        obtain ⟨aa, haa⟩ : ∃ c, a.add (i * 7) = c := ⟨_, rfl⟩
        obtain ⟨bb, hbb⟩ : ∃ c, b.add (i * 7) = c := ⟨_, rfl⟩
        rw [haa] at a0 a1 a2 a3 a4 a5 a6
        rw [hbb] at b0 b1 b2 b3 b4 b5 b6
        simp only [Addr.add, Nat.reduceEqDiff, ↓reduceIte] at a1 a2 a3 a4 a5 a6 b1 b2 b3 b4 b5 b6
        obtain ⟨W2, hW2⟩ : ∃ W2, W2 = (wr.alloc (.cells #[.int .i64 x.kind, .bool x.b, .int .i64 x.n, .string x.s, .slice p2 x.items.length c2, .slice q2 x.mems.length d2, .int .i64 x.at'] 26)).alloc (.cells #[.int .i64 y.kind, .bool y.b, .int .i64 y.n, .string y.s, .slice p3 y.items.length c3, .slice q3 y.mems.length d3, .int .i64 y.at'] 26) := ⟨_, rfl⟩
        have b2' : Below wr.heap.size wr W2 := by rw [hW2]; exact ((Below.refl _ _).alloc (Nat.le_refl _) _).alloc (by simp) _
        obtain ⟨hc1, hc2⟩ := HC.out x hmem
        have c1 := HE.out x y _ _ W2 hc1 hc2 (hk.below b2') (hk2.below b2')
        have c1 := fun (wx : World) (hx : wx = W2) => (show Calls Tryz.prog 18 _ wx _ from hx ▸ c1)
        have e0 := jcell_alloc b0
        have e1 := jcell_alloc b1
        have e2 := jcell_alloc b2
        have e3 := jcell_alloc b3
        have e4 := jcell_alloc b4
        have e5 := jcell_alloc b5
        have e6 := jcell_alloc b6
        have HB2 := Lib.hid (hbr.trans (b2'.mono hzr))
        have hz2 := b2'.size
        clear hk hk2 b2' hx hy hmem hbr hp hq
        rcases hxy : x.eqB false y with _ | _
        · rw [hxy, Bool.false_and] at hrel
          rw [hxy] at c1
          have HR := Lib.hid hrel
          clear hrel hxy
          go_wp2_with fail
          refine (c1 _ hW2.symm).mono ?_
          rintro e w3 ⟨rfl, b3⟩
          rw [← hW2] at b3
          have HB3 := Lib.hid (HB2.out.trans (b3.mono (by omega)))
          clear b3 hW2
          go_wp2
          go_ret
          exact ⟨jtrB (by rw [HR.out]), HB3.out⟩
        · rw [hxy, Bool.true_and] at hrel
          rw [hxy] at c1
          have HR := Lib.hid hrel
          clear hrel hxy
          go_wp2_with fail
          refine (c1 _ hW2.symm).mono ?_
          rintro e w3 ⟨rfl, b3⟩
          rw [← hW2] at b3
          have HB3 := Lib.hid (HB2.out.trans (b3.mono (by omega)))
          clear b3 hW2
          go_wp2
          go_roundw
          case rel => exact ⟨i + 1, by omega, by go_num, HR.out, HB3.out⟩
          case measure => simp [RowKit.intOf]; omega
      · obtain rfl : i = l.length := by omega
        rw [List.drop_eq_nil_of_le (Nat.le_refl _), vsEq] at hrel
        have HR := Lib.hid hrel
        clear hrel hp hq
        go_wp2
        go_ret
        exact ⟨jtrB (by rw [HR.out]), hbr⟩
  · have hR : eqI l m = false := by unfold eqI; rw [decide_eq_false hlen, Bool.false_and]
    rw [hR]
    have hlb : ((l.length : Int) != (m.length : Int)) = true := by simp; omega
    have hlq : ¬ (l.length : Int) = (m.length : Int) := by omega
    clear hE hc hlen hR hp hq
    go_enter Tryz.func38, Tryz.ntmps38
    go_wp2
    go_ret
    exact ⟨rfl, Below.refl _ _⟩
set_option maxRecDepth 100000 in
set_option maxHeartbeats 16000000 in
theorem jp_eqMember (f : Nat) (hE : EqJ f) (x y : MemD) (p2 : Option Addr) (c2 : Nat) (q2 : Option Addr) (d2 : Nat) (p3 : Option Addr) (c3 : Nat) (q3 : Option Addr) (d3 : Nat) (w : World) (h1 : x.v.cnt ≤ f) (h2 : x.v.cnt ≤ 1000000)
    (hk : ValIs w x.v (.agg #[.int .i64 x.v.kind, .bool x.v.b, .int .i64 x.v.n, .string x.v.s, .slice p2 x.v.items.length c2, .slice q2 x.v.mems.length d2, .int .i64 x.v.at'])) (hk2 : ValIs w y.v (.agg #[.int .i64 y.v.kind, .bool y.v.b, .int .i64 y.v.n, .string y.v.s, .slice p3 y.v.items.length c3, .slice q3 y.v.mems.length d3, .int .i64 y.v.at'])) :
    Calls Tryz.prog 40 #[.agg #[.string x.key, .int .i64 x.v.kind, .bool x.v.b, .int .i64 x.v.n, .string x.v.s, .slice p2 x.v.items.length c2, .slice q2 x.v.mems.length d2, .int .i64 x.v.at', .int .i64 x.at'], .agg #[.string y.key, .int .i64 y.v.kind, .bool y.v.b, .int .i64 y.v.n, .string y.v.s, .slice p3 y.v.items.length c3, .slice q3 y.v.mems.length d3, .int .i64 y.v.at', .int .i64 y.at']] w fun e w' => e = .returned (.bool (x.eqB false y)) ∧ Below w.heap.size w w' := by
  have hEq := meq_eq false x y
  obtain ⟨W2, hW2⟩ : ∃ W2, W2 = (w.alloc (.cells #[.string x.key, .int .i64 x.v.kind, .bool x.v.b, .int .i64 x.v.n, .string x.v.s, .slice p2 x.v.items.length c2, .slice q2 x.v.mems.length d2, .int .i64 x.v.at', .int .i64 x.at'] 44)).alloc (.cells #[.string y.key, .int .i64 y.v.kind, .bool y.v.b, .int .i64 y.v.n, .string y.v.s, .slice p3 y.v.items.length c3, .slice q3 y.v.mems.length d3, .int .i64 y.v.at', .int .i64 y.at'] 44) := ⟨_, rfl⟩
  have b2 : Below w.heap.size w W2 := by rw [hW2]; exact ((Below.refl _ _).alloc (Nat.le_refl _) _).alloc (by simp) _
  have hm1 := Bj.first w (.cells #[.string y.key, .int .i64 y.v.kind, .bool y.v.b, .int .i64 y.v.n, .string y.v.s, .slice p3 y.v.items.length c3, .slice q3 y.v.mems.length d3, .int .i64 y.v.at', .int .i64 y.at'] 44) #[.string x.key, .int .i64 x.v.kind, .bool x.v.b, .int .i64 x.v.n, .string x.v.s, .slice p2 x.v.items.length c2, .slice q2 x.v.mems.length d2, .int .i64 x.v.at', .int .i64 x.at'] 44
  have hm2 := Bj.second w (.cells #[.string x.key, .int .i64 x.v.kind, .bool x.v.b, .int .i64 x.v.n, .string x.v.s, .slice p2 x.v.items.length c2, .slice q2 x.v.mems.length d2, .int .i64 x.v.at', .int .i64 x.at'] 44) #[.string y.key, .int .i64 y.v.kind, .bool y.v.b, .int .i64 y.v.n, .string y.v.s, .slice p3 y.v.items.length c3, .slice q3 y.v.mems.length d3, .int .i64 y.v.at', .int .i64 y.at'] 44
  rw [← hW2] at hm1 hm2
  obtain ⟨⟨x0, x1, x2, x3, x4, x5, x6, x7, -⟩, -⟩ := hm1.nine
  obtain ⟨⟨y0, y1, y2, y3, y4, y5, y6, y7, -⟩, -⟩ := hm2.nine
  have c1 := hE x.v y.v _ _ W2 h1 h2 (hk.below b2) (hk2.below b2)
  have HB2 := Lib.hid b2
  have hz2 := b2.size
  rw [hEq]
  clear hE hk hk2 b2 hm1 hm2 hEq
  by_cases hkey : x.key = y.key
  · rw [show decide (x.key = y.key ∧ (false = true → x.at' = y.at')) = true by simp [hkey], Bool.true_and]
    rw [hkey] at x0
    generalize x.v.eqB false y.v = R at *
    rw [hkey] at hW2
    rw [hkey]
    clear hkey
    go_enter Tryz.func40, Tryz.ntmps40
    go_upto_region 1 with fail
    simp only [← hW2]
    clear hW2
    go_wp2_with fail
    refine c1.mono ?_
    rintro e w3 ⟨rfl, b3⟩
    have HB3 := Lib.hid (HB2.out.trans (b3.mono hz2))
    clear b3
    go_wp2
    go_ret
    exact ⟨rfl, HB3.out⟩
  · rw [show decide (x.key = y.key ∧ (false = true → x.at' = y.at')) = false by simp [hkey], Bool.false_and]
    have hk1 := jstr_ne hkey
    have hk2 := jstr_ne2 hkey
    have hk3 := jstr_ne3 hkey
    clear c1 hkey
    go_enter Tryz.func40, Tryz.ntmps40
    go_upto_region 1 with fail
    simp only [← hW2]
    clear hW2
    go_wp2
    go_ret
    exact ⟨rfl, HB2.out⟩
end Go.Proofs.YtkkiklaoljdhhaaGreatDoor
end
section
namespace Go.Proofs.YtkkiklaoljdhhaaGreatDoor
open Go.RowKit
set_option maxRecDepth 100000 in
set_option maxHeartbeats 16000000 in
theorem jp_eqMems (f : Nat) (hE : EqJ f) (l m : List MemD) (p q : Option Addr) (c d : Nat) (w : World) (hl : l.length ≤ 1000000) (hc : ∀ k ∈ l, k.v.cnt ≤ f ∧ k.v.cnt ≤ 1000000) (hp : MemsAt w p 0 l) (hq : MemsAt w q 0 m) :
    Calls Tryz.prog 39 #[.slice p l.length c, .slice q m.length d, .func (.func 40) #[] #[]] w fun e w' => e = .returned (.bool (eqM l m)) ∧ Below w.heap.size w w' := by
  have HE := Lib.hid hE
  have HC := Lib.hid hc
  have hlz : (l.length : Int) ≤ 1000000 := by omega
  by_cases hlen : l.length = m.length
  · have hR : eqM l m = msEq false l m := by unfold eqM; rw [decide_eq_true hlen, Bool.true_and]
    rw [hR]
    have HLN := Lib.hid hlen
    have hlb : ((l.length : Int) != (m.length : Int)) = false := by simp [hlen]
    clear hE hc hlen hR
    go_enter Tryz.func39, Tryz.ntmps39
    go_wp2
    go_loopw [17] (fun vi wr => ∃ i : Nat, i ≤ l.length ∧ vi = .int .i64 i ∧ msEq false l m = msEq false (l.drop i) (m.drop i) ∧ Below w.heap.size w wr) (fun vi _ => l.length - (RowKit.intOf vi).toNat)
    case atStart => exact ⟨0, Nat.zero_le _, rfl, rfl, Below.refl _ _⟩
    case round =>
      obtain ⟨i, hi, rfl, hrel, hbr⟩ := hrel
      have hzr := hbr.size
      by_cases hlt : i < l.length
      · have hiz : (i : Int) < (l.length : Int) := by omega
        have hlt2 : i < m.length := by have := HLN.out; omega
        have hiz2 : (i : Int) < (m.length : Int) := by omega
        obtain ⟨a, p2, c2, q2, d2, rfl, ⟨a0, a1, a2, a3, a4, a5, a6, a7, a8⟩, hk⟩ := (hp.below hbr).cells i hlt
        obtain ⟨b, p3, c3, q3, d3, rfl, ⟨b0, b1, b2, b3, b4, b5, b6, b7, b8⟩, hk2⟩ := (hq.below hbr).cells i hlt2
        rw [msEq_drop false l m i hlt hlt2] at hrel
        obtain ⟨x, hx⟩ : ∃ x, l[i] = x := ⟨_, rfl⟩
        obtain ⟨y, hy⟩ : ∃ y, m[i] = y := ⟨_, rfl⟩
        have hmem : x ∈ l := by rw [← hx]; exact List.getElem_mem _
        rw [hx] at hk a0 a1 a2 a3 a4 a5 a6 a7 a8 hrel
        rw [hy] at hk2 b0 b1 b2 b3 b4 b5 b6 b7 b8 hrel
        obtain ⟨aa, haa⟩ : ∃ c, a.add (i * 9) = c := ⟨_, rfl⟩
        obtain ⟨bb, hbb⟩ : ∃ c, b.add (i * 9) = c := ⟨_, rfl⟩
        rw [haa] at a0 a1 a2 a3 a4 a5 a6 a7 a8
        rw [hbb] at b0 b1 b2 b3 b4 b5 b6 b7 b8
        simp only [Addr.add, Nat.reduceEqDiff, ↓reduceIte] at a1 a2 a3 a4 a5 a6 a7 a8 b1 b2 b3 b4 b5 b6 b7 b8
        obtain ⟨W2, hW2⟩ : ∃ W2, W2 = (wr.alloc (.cells #[.string x.key, .int .i64 x.v.kind, .bool x.v.b, .int .i64 x.v.n, .string x.v.s, .slice p2 x.v.items.length c2, .slice q2 x.v.mems.length d2, .int .i64 x.v.at', .int .i64 x.at'] 44)).alloc (.cells #[.string y.key, .int .i64 y.v.kind, .bool y.v.b, .int .i64 y.v.n, .string y.v.s, .slice p3 y.v.items.length c3, .slice q3 y.v.mems.length d3, .int .i64 y.v.at', .int .i64 y.at'] 44) := ⟨_, rfl⟩
        have b2' : Below wr.heap.size wr W2 := by rw [hW2]; exact ((Below.refl _ _).alloc (Nat.le_refl _) _).alloc (by simp) _
        obtain ⟨hc1, hc2⟩ := HC.out x hmem
        have c1 := jp_eqMember f HE.out x y p2 c2 q2 d2 p3 c3 q3 d3 W2 hc1 hc2 (hk.below b2') (hk2.below b2')
        have c1 := fun (wx : World) (hx : wx = W2) => (show Calls Tryz.prog 40 _ wx _ from hx ▸ c1)
        have e0 := jcell_alloc b0
        have e1 := jcell_alloc b1
        have e2 := jcell_alloc b2
        have e3 := jcell_alloc b3
        have e4 := jcell_alloc b4
        have e5 := jcell_alloc b5
        have e6 := jcell_alloc b6
        have e7 := jcell_alloc b7
        have e8 := jcell_alloc b8
        have HB2 := Lib.hid (hbr.trans (b2'.mono hzr))
        have hz2 := b2'.size
        clear hk hk2 b2' hx hy hmem hbr hp hq
        rcases hxy : x.eqB false y with _ | _
        · rw [hxy, Bool.false_and] at hrel
          rw [hxy] at c1
          have HR := Lib.hid hrel
          clear hrel hxy
          go_wp2_with fail
          refine (c1 _ hW2.symm).mono ?_
          rintro e w3 ⟨rfl, b3⟩
          rw [← hW2] at b3
          have HB3 := Lib.hid (HB2.out.trans (b3.mono (by omega)))
          clear b3 hW2
          go_wp2
          go_ret
          exact ⟨jtrB (by rw [HR.out]), HB3.out⟩
        · rw [hxy, Bool.true_and] at hrel
          rw [hxy] at c1
          have HR := Lib.hid hrel
          clear hrel hxy
          go_wp2_with fail
          refine (c1 _ hW2.symm).mono ?_
          rintro e w3 ⟨rfl, b3⟩
          rw [← hW2] at b3
          have HB3 := Lib.hid (HB2.out.trans (b3.mono (by omega)))
          clear b3 hW2
          go_wp2
          go_roundw
          case rel => exact ⟨i + 1, by omega, by go_num, HR.out, HB3.out⟩
          case measure => simp [RowKit.intOf]; omega
      · obtain rfl : i = l.length := by omega
        rw [List.drop_eq_nil_of_le (Nat.le_refl _), msEq] at hrel
        have HR := Lib.hid hrel
        clear hrel hp hq
        go_wp2
        go_ret
        exact ⟨jtrB (by rw [HR.out]), hbr⟩
  · have hR : eqM l m = false := by unfold eqM; rw [decide_eq_false hlen, Bool.false_and]
    rw [hR]
    have hlb : ((l.length : Int) != (m.length : Int)) = true := by simp; omega
    have hlq : ¬ (l.length : Int) = (m.length : Int) := by omega
    clear hE hc hlen hR hp hq
    go_enter Tryz.func39, Tryz.ntmps39
    go_wp2
    go_ret
    exact ⟨rfl, Below.refl _ _⟩
set_option maxRecDepth 100000 in
set_option maxHeartbeats 32000000 in
theorem jp_eq_step (f : Nat) (hE : EqJ f) : EqJ (f + 1) := by
  intro n m v u w hf hc hn hm
  have hce := vcnt_eq n
  have hC1 : ∀ k ∈ n.items, k.cnt ≤ f ∧ k.cnt ≤ 1000000 := fun k hk => by have := vcnt_item n k hk; omega
  have hC2 : ∀ k ∈ n.mems, k.v.cnt ≤ f ∧ k.v.cnt ≤ 1000000 := fun k hk => by have := vcnt_mem n k hk; omega
  have hil : n.items.length ≤ 1000000 := by have := vcnts_len n.items; omega
  have hml : n.mems.length ≤ 1000000 := by have := mcnts_len n.mems; omega
  obtain ⟨p, c, q, d, rfl, hI, hM⟩ := (val_is w n v).1 hn
  obtain ⟨p', c', q', d', rfl, hI', hM'⟩ := (val_is w m u).1 hm
  rw [veq_code]
  clear hn hm hf hc hce
  obtain ⟨W2, hW2⟩ : ∃ W2, W2 = (w.alloc (.cells #[.int .i64 n.kind, .bool n.b, .int .i64 n.n, .string n.s, .slice p n.items.length c, .slice q n.mems.length d, .int .i64 n.at'] 26)).alloc (.cells #[.int .i64 m.kind, .bool m.b, .int .i64 m.n, .string m.s, .slice p' m.items.length c', .slice q' m.mems.length d', .int .i64 m.at'] 26) := ⟨_, rfl⟩
  have b2 : Below w.heap.size w W2 := by rw [hW2]; exact ((Below.refl _ _).alloc (Nat.le_refl _) _).alloc (by simp) _
  have hm1 : Bj W2 w.heap.size #[.int .i64 n.kind, .bool n.b, .int .i64 n.n, .string n.s, .slice p n.items.length c, .slice q n.mems.length d, .int .i64 n.at'] 26 := by rw [hW2]; exact Bj.first w _ _ _
  have hm2 : Bj W2 (w.heap.size + 1) #[.int .i64 m.kind, .bool m.b, .int .i64 m.n, .string m.s, .slice p' m.items.length c', .slice q' m.mems.length d', .int .i64 m.at'] 26 := by rw [hW2]; exact Bj.second w _ _ _
  obtain ⟨⟨x0, x1, x2, x3, x4, x5, x6⟩, -⟩ := hm1.seven
  obtain ⟨⟨y0, y1, y2, y3, y4, y5, y6⟩, -⟩ := hm2.seven
  have c1 := jp_eqItems f hE n.items m.items p p' c c' W2 hil hC1 (hI.below b2) (hI'.below b2)
  have c2 : ∀ wx, Below W2.heap.size W2 wx → _ := fun wx hb => jp_eqMems f hE n.mems m.mems q q' d d' wx hml hC2 ((hM.below b2).below hb) ((hM'.below b2).below hb)
  have HB2 := Lib.hid b2
  have Hm1 := Lib.hid hm1
  have Hm2 := Lib.hid hm2
  have hz2 : W2.heap.size = w.heap.size + 2 := by rw [hW2]; simp
  clear hE hI hM hI' hM' b2 hm1 hm2 hC1 hC2
  generalize n.kind = n0 at *
  generalize m.kind = m0 at *
  generalize n.b = n1 at *
  generalize m.b = m1 at *
  generalize n.n = n2 at *
  generalize m.n = m2 at *
  generalize n.s = n3 at *
  generalize m.s = m3 at *
  generalize n.items = ni at *
  generalize m.items = mi at *
  generalize n.mems = nm at *
  generalize m.mems = mm at *
  generalize eqI ni mi = RI at *
  generalize eqM nm mm = RM at *
  by_cases h0 : n0 = m0
  case neg =>
    rw [decide_eq_false h0, Bool.false_and]
    have h0b : (n0 == m0) = false := by simpa using h0
    clear c1 c2 h0
    go_enter Tryz.func18, Tryz.ntmps18
    go_upto_region 1 with fail
    simp only [← hW2]
    clear hW2
    go_wp2
    go_ret
    exact ⟨rfl, HB2.out⟩
  subst h0
  rw [decide_eq_true rfl, Bool.true_and]
  by_cases h1 : n1 = m1
  case neg =>
    rw [decide_eq_false h1, Bool.false_and]
    have h1b : (n1 == m1) = false := by simpa using h1
    clear c1 c2 h1
    go_enter Tryz.func18, Tryz.ntmps18
    go_upto_region 1 with fail
    simp only [← hW2]
    clear hW2
    go_wp2
    go_ret
    exact ⟨rfl, HB2.out⟩
  subst h1
  rw [decide_eq_true rfl, Bool.true_and]
  by_cases h2 : n2 = m2
  case neg =>
    rw [decide_eq_false h2, Bool.false_and]
    have h2b : (n2 == m2) = false := by simpa using h2
    clear c1 c2 h2
    go_enter Tryz.func18, Tryz.ntmps18
    go_upto_region 1 with fail
    simp only [← hW2]
    clear hW2
    go_wp2
    go_ret
    exact ⟨rfl, HB2.out⟩
  subst h2
  rw [decide_eq_true rfl, Bool.true_and]
  by_cases h3 : n3 = m3
  case neg =>
    rw [decide_eq_false h3, Bool.false_and]
    have hk1 := jstr_ne h3
    have hk2 := jstr_ne2 h3
    have hk3 := jstr_ne3 h3
    clear c1 c2 h3
    go_enter Tryz.func18, Tryz.ntmps18
    go_upto_region 1 with fail
    simp only [← hW2]
    clear hW2
    go_wp2
    go_ret
    exact ⟨rfl, HB2.out⟩
  subst h3
  rw [decide_eq_true rfl, Bool.true_and]
  rcases RI with _ | _
  · rw [Bool.false_and]
    clear c2
    go_enter Tryz.func18, Tryz.ntmps18
    go_upto_region 1 with fail
    simp only [← hW2]
    clear hW2
    go_wp2_with fail
    refine c1.mono ?_
    rintro e w3 ⟨rfl, b3⟩
    have HB3 := Lib.hid (HB2.out.trans (b3.mono (by omega)))
    clear b3
    go_wp2
    go_ret
    exact ⟨rfl, HB3.out⟩
  · rw [Bool.true_and]
    go_enter Tryz.func18, Tryz.ntmps18
    go_upto_region 1 with fail
    simp only [← hW2]
    clear hW2
    go_wp2_with fail
    refine c1.mono ?_
    rintro e w3 ⟨rfl, b3⟩
    have c3 := c2 w3 b3
    have HB3 := Lib.hid (HB2.out.trans (b3.mono (by omega)))
    have x5' : w3.cell? ⟨w.heap.size, 5, none⟩ = some (.slice q nm.length d) := (Hm1.out.more b3).cell 5
    have y5' : w3.cell? ⟨w.heap.size + 1, 5, none⟩ = some (.slice q' mm.length d') := (Hm2.out.more b3).cell 5
    have hz3 := b3.size
    clear b3 c2 x0 x1 x2 x3 x4 x5 x6 y0 y1 y2 y3 y4 y5 y6
    go_wp2_with fail
    refine c3.mono ?_
    rintro e w4 ⟨rfl, b4⟩
    have HB4 := Lib.hid (HB3.out.trans (b4.mono (by omega)))
    clear b4
    go_wp2
    go_ret
    exact ⟨rfl, HB4.out⟩
theorem jp_Equal : ∀ f, EqJ f
  | 0 => fun n _ _ _ _ hf => absurd hf (by have := vcnt_eq n; omega)
  | f + 1 => jp_eq_step f (jp_Equal f)
end Go.Proofs.YtkkiklaoljdhhaaGreatDoor
end
