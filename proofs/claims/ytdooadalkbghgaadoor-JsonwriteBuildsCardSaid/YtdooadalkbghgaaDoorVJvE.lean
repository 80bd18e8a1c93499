/- Packed from the texts JvE. -/
import Derived.Test.YtdooadalkbghgaaDoorVkM
import Derived.BigGuard
import Derived.Deep.RegionHeld3
section
namespace Go.Proofs.YtdooadalkbghgaaDoor
open Go.RowKit
theorem vsEq_drop (off : Bool) (l m : List ValD) (i : Nat) (h : i < l.length) (h' : i < m.length) : vsEq off (l.drop i) (m.drop i) = (l[i].eqB off m[i] && vsEq off (l.drop (i + 1)) (m.drop (i + 1))) := by
  rw [List.drop_eq_getElem_cons h, List.drop_eq_getElem_cons h', vsEq]
theorem msEq_drop (off : Bool) (l m : List MemD) (i : Nat) (h : i < l.length) (h' : i < m.length) : msEq off (l.drop i) (m.drop i) = (l[i].eqB off m[i] && msEq off (l.drop (i + 1)) (m.drop (i + 1))) := by
  rw [List.drop_eq_getElem_cons h, List.drop_eq_getElem_cons h', msEq]
theorem jtrB {a b : Bool} (h : a = b) : Ending.returned (.bool a) = .returned (.bool b) := by rw [h]
def JqC (off : Bool) (f : Nat) : Prop := ∀ (n m : ValD) (v u : Value) (w : World), n.cnt ≤ f → n.cnt ≤ 100000000 → ValIs w n v → ValIs w m u → Calls Tryd.prog 15 #[v, u, .bool off] w fun e w' => e = .returned (.bool (n.eqB off m)) ∧ Below w.heap.size w w'
def JqM (off : Bool) (f : Nat) : Prop := ∀ (O : Bool) (_ : O = off) (w : World) (k1 : Int) (b1 : Bool) (n1 : Int) (s1 : ByteArray) (a1 a2 : Int) (items jtems : List ValD) (mems nems : List MemD) (p q p' q' : Option Addr) (c d c' d' : Nat) (R : Bool), R = (vsEq O items jtems && msEq O mems nems) → (off = true → (a1 != a2) = false) → items.length = jtems.length → mems.length = nems.length → (∀ k ∈ items, k.cnt ≤ f ∧ k.cnt ≤ 100000000) → (∀ k ∈ mems, k.v.cnt ≤ f ∧ k.v.cnt ≤ 100000000) → (items.length : Int) ≤ 100000000 → (mems.length : Int) ≤ 100000000 → ItemsAt w p 0 items → MemsAt w q 0 mems → ItemsAt w p' 0 jtems → MemsAt w q' 0 nems →
    Calls Tryd.prog 15 #[.agg #[.int .i64 k1, .bool b1, .int .i64 n1, .string s1, .slice p items.length c, .slice q mems.length d, .int .i64 a1], .agg #[.int .i64 k1, .bool b1, .int .i64 n1, .string s1, .slice p' items.length c', .slice q' mems.length d', .int .i64 a2], .bool off] w fun e w' => e = .returned (.bool R) ∧ Below w.heap.size w w'
set_option maxRecDepth 100000 in
set_option maxHeartbeats 16000000 in
theorem jeq_heads (off : Bool) (f : Nat) (EM : JqM off f) : JqC off (f + 1) := by
    intro n m v u w hf hc hn hm
    have HD := Lib.hid (veq_eq off n m)
    have hwe := vcnt_eq n
    have hil := vcnts_len n.items
    have hml := mcnts_len n.mems
    have HKM := Lib.hid (show ∀ k ∈ n.items, k.cnt ≤ f ∧ k.cnt ≤ 100000000 from fun k hk => by have := vcnt_item n k hk; omega)
    have HMM := Lib.hid (show ∀ k ∈ n.mems, k.v.cnt ≤ f ∧ k.v.cnt ≤ 100000000 from fun k hk => by have := vcnt_mem n k hk; omega)
    obtain ⟨p, c, q, d, rfl, hA, hK⟩ := (val_is w n v).1 hn
    obtain ⟨p', c', q', d', rfl, hB, hL⟩ := (val_is w m u).1 hm
    have hkl : (n.items.length : Int) ≤ 100000000 := by omega
    have hal : (n.mems.length : Int) ≤ 100000000 := by omega
    have hbw : Below w.heap.size w ((w.alloc (.cells #[.int .i64 n.kind, .bool n.b, .int .i64 n.n, .string n.s, .slice p n.items.length c, .slice q n.mems.length d, .int .i64 n.at'] 25)).alloc (.cells #[.int .i64 m.kind, .bool m.b, .int .i64 m.n, .string m.s, .slice p' m.items.length c', .slice q' m.mems.length d', .int .i64 m.at'] 25)) := ((Below.refl _ _).alloc (Nat.le_refl _) _).alloc (by simp) _
    clear hn hm hf hwe hil hml
    have hh : vheadEq off n m = decide (n.kind = m.kind ∧ n.b = m.b ∧ n.n = m.n ∧ n.s = m.s ∧ (off = true → n.at' = m.at') ∧ n.items.length = m.items.length ∧ n.mems.length = m.mems.length) := rfl
    generalize n.kind = k1 at *
    generalize n.b = b1 at *
    generalize n.n = n1 at *
    generalize n.s = s1 at *
    generalize n.at' = a1 at *
    generalize n.items = items at *
    generalize n.mems = mems at *
    generalize m.kind = k2 at *
    generalize m.b = b2 at *
    generalize m.n = n2 at *
    generalize m.s = s2 at *
    generalize m.at' = a2 at *
    generalize m.items = jtems at *
    generalize m.mems = nems at *
    by_cases h1 : k1 = k2
    case neg =>
      have HH := Lib.hid (hh.trans (decide_eq_false (fun x => h1 x.1)))
      have q1 : (k1 != k2) = true := by simpa using h1
      clear hh h1 hA hB hK hL
      go_enter Tryd.func15, Tryd.ntmps15
      go_wp2
      go_ret
      exact ⟨jtrB (by rw [HD.out, HH.out]; rfl), hbw⟩
    subst h1
    by_cases h2 : b1 = b2
    case neg =>
      have HH := Lib.hid (hh.trans (decide_eq_false (fun x => h2 x.2.1)))
      cases b1 <;> cases b2 <;> first | exact absurd rfl h2 | skip
      all_goals
        clear hh h2 hA hB hK hL
        go_enter Tryd.func15, Tryd.ntmps15
        go_wp2
        go_ret
        exact ⟨jtrB (by rw [HD.out, HH.out]; rfl), hbw⟩
    subst h2
    by_cases h3 : n1 = n2
    case neg =>
      have HH := Lib.hid (hh.trans (decide_eq_false (fun x => h3 x.2.2.1)))
      have q3 : (n1 != n2) = true := by simpa using h3
      clear hh h3 hA hB hK hL
      cases b1
      all_goals
        go_enter Tryd.func15, Tryd.ntmps15
        go_wp2
        go_ret
        exact ⟨jtrB (by rw [HD.out, HH.out]; rfl), hbw⟩
    subst h3
    by_cases h4 : s1 = s2
    case neg =>
      have HH := Lib.hid (hh.trans (decide_eq_false (fun x => h4 x.2.2.2.1)))
      have q4 := jstr_ne h4
      have r4 := jstr_ne2 h4
      have u4 := jstr_ne3 h4
      clear hh h4 hA hB hK hL
      cases b1
      all_goals
        go_enter Tryd.func15, Tryd.ntmps15
        go_wp2
        go_ret
        exact ⟨jtrB (by rw [HD.out, HH.out]; rfl), hbw⟩
    subst h4
    have q5t : off = true → a1 = a2 → (a1 != a2) = false := fun _ e => by simp [e]
    by_cases h5 : off = true ∧ a1 ≠ a2
    case pos =>
      obtain ⟨rfl, h5⟩ := h5
      have HH := Lib.hid (hh.trans (decide_eq_false (fun x => h5 (x.2.2.2.2.1 rfl))))
      have q5 : (a1 != a2) = true := by simpa using h5
      clear hh h5 hA hB hK hL q5t
      cases b1
      all_goals
        go_enter Tryd.func15, Tryd.ntmps15
        go_wp2
        go_ret
        exact ⟨jtrB (by rw [HD.out, HH.out]; rfl), hbw⟩
    have hoff : off = true → (a1 != a2) = false ∧ a1 = a2 := fun e => by
      have e2 : a1 = a2 := Classical.byContradiction fun x => h5 ⟨e, x⟩
      exact ⟨q5t e e2, e2⟩
    clear h5 q5t
    by_cases h6 : items.length = jtems.length
    case neg =>
      have HH := Lib.hid (hh.trans (decide_eq_false (fun x => h6 x.2.2.2.2.2.1)))
      have q6 : ((items.length : Int) != (jtems.length : Int)) = true := by simp; omega
      have r6 : ((items.length : Int) == (jtems.length : Int)) = false := by simp; omega
      rcases off with _ | _
      · clear hh h6 hA hB hK hL hoff
        cases b1
        all_goals
          go_enter Tryd.func15, Tryd.ntmps15
          go_wp2
          go_ret
          exact ⟨jtrB (by rw [HD.out, HH.out]; rfl), hbw⟩
      · have q5 := (hoff rfl).1
        clear hh h6 hA hB hK hL hoff
        cases b1
        all_goals
          go_enter Tryd.func15, Tryd.ntmps15
          go_wp2
          go_ret
          exact ⟨jtrB (by rw [HD.out, HH.out]; rfl), hbw⟩
    by_cases h7 : mems.length = nems.length
    case neg =>
      have HH := Lib.hid (hh.trans (decide_eq_false (fun x => h7 x.2.2.2.2.2.2)))
      have q7 : ((mems.length : Int) != (nems.length : Int)) = true := by simp; omega
      have r7 : ((mems.length : Int) == (nems.length : Int)) = false := by simp; omega
      rw [← h6] at hbw ⊢
      rcases off with _ | _
      · clear hh h7 h6 hA hB hK hL hoff
        cases b1
        all_goals
          go_enter Tryd.func15, Tryd.ntmps15
          go_wp2
          go_ret
          exact ⟨jtrB (by rw [HD.out, HH.out]; rfl), hbw⟩
      · have q5 := (hoff rfl).1
        clear hh h7 h6 hA hB hK hL hoff
        cases b1
        all_goals
          go_enter Tryd.func15, Tryd.ntmps15
          go_wp2
          go_ret
          exact ⟨jtrB (by rw [HD.out, HH.out]; rfl), hbw⟩
    have hh1 := hh.trans (decide_eq_true ⟨rfl, rfl, rfl, rfl, fun e => (hoff e).2, h6, h7⟩)
    have HR : n.eqB off m = (vsEq off items jtems && msEq off mems nems) := by rw [HD.out, hh1]; rfl
    rw [← h6, ← h7]
    exact EM off rfl w k1 b1 n1 s1 a1 a2 items jtems mems nems p q p' q' c d c' d' _ HR (fun e => (hoff e).1) h6 h7 HKM.out HMM.out hkl hal hA hK hB hL
end Go.Proofs.YtdooadalkbghgaaDoor
end
