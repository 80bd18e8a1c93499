/- Packed from the texts NsR. -/
import Derived.Test.YtoehcholbcchcaaDoorSNsO
import Derived.Test.YtoehcholbcchcaaDoorSkS
section
namespace Go.Proofs.YtoehcholbcchcaaDoor
open Go.RowKit
def declR (nm : ByteArray) : ByteArray × Bool := if (splitP nm).1 = noB ∧ (splitP nm).2.1 = xmlnsB then (noB, true) else ((splitP nm).2.1, decide ((splitP nm).1 = xmlnsB))
theorem declR_none {nm : ByteArray} (h : declP nm = none) : (declR nm).2 = false := by
  unfold declP at h
  unfold declR
  by_cases h1 : (splitP nm).1 = xmlnsB
  · rw [if_pos h1] at h; cases h
  · rw [if_neg h1] at h
    by_cases h2 : (splitP nm).1 = noB ∧ (splitP nm).2.1 = xmlnsB
    · rw [if_pos h2] at h; cases h
    · rw [if_neg h2]; simp [h1]
theorem declR_some {nm d : ByteArray} (h : declP nm = some d) : declR nm = (d, true) := by
  unfold declP at h
  unfold declR
  by_cases h1 : (splitP nm).1 = xmlnsB
  · rw [if_pos h1] at h
    rw [if_neg (fun e => by rw [h1] at e; exact absurd e.1 (by decide))]
    cases h
    simp [h1]
  · rw [if_neg h1] at h
    by_cases h2 : (splitP nm).1 = noB ∧ (splitP nm).2.1 = xmlnsB
    · rw [if_pos h2] at h ⊢; cases h; rfl
    · rw [if_neg h2] at h; cases h
set_option maxRecDepth 100000 in
set_option maxHeartbeats 4000000 in
theorem nref_declares (sp nm va : ByteArray) (a : Int) (w : World) (hs : nm.size ≤ 1000000) : Calls Tryd.prog 71 #[.agg #[.string sp, .string nm, .string va, .int .i64 a]] w fun e w' => e = .returned (.tuple #[.string (declR nm).1, .bool (declR nm).2]) ∧ Below w.heap.size w w' := by
  have c1 : ∀ wx, _ := fun wx => nref_Split nm wx hs
  have hd : declR nm = if (splitP nm).1 = noB ∧ (splitP nm).2.1 = xmlnsB then (noB, true) else ((splitP nm).2.1, decide ((splitP nm).1 = xmlnsB)) := rfl
  have bA : Below w.heap.size w (w.alloc (.cells #[.string sp, .string nm, .string va, .int .i64 a] 43)) := (Below.refl _ _).alloc (Nat.le_refl _) _
  obtain ⟨p, hp⟩ : ∃ p, (splitP nm).1 = p := ⟨_, rfl⟩
  obtain ⟨l, hl⟩ : ∃ l, (splitP nm).2.1 = l := ⟨_, rfl⟩
  obtain ⟨ok, hok⟩ : ∃ ok, (splitP nm).2.2 = ok := ⟨_, rfl⟩
  rw [hp, hl] at hd
  rw [hp, hl, hok] at c1
  clear hp hl hok
  rw [hd]
  clear hd
  by_cases h2 : p = noB
  · subst h2
    by_cases h3 : l = xmlnsB
    · rw [if_pos ⟨rfl, h3⟩]
      subst h3
      unfold xmlnsB noB at c1
      go_enter Tryd.func71, Tryd.ntmps71
      go_wp2_with fail
      refine (c1 _).mono ?_
      rintro e w1 ⟨rfl, b1⟩
      go_wp2
      exact bodyPost_ret (v := .tuple #[.string ⟨#[]⟩, .bool true]) (by simp [results, Tryd.results71, go_sem]) rfl ⟨rfl, bA.trans (b1.mono bA.size)⟩
    · rw [if_neg (fun h => h3 h.2)]
      have hb3 : (l.toList == [120, 109, 108, 110, 115]) = false := cne h3 rfl
      unfold noB at c1
      clear h3
      go_enter Tryd.func71, Tryd.ntmps71
      go_wp2_with fail
      refine (c1 _).mono ?_
      rintro e w1 ⟨rfl, b1⟩
      go_wp2
      exact bodyPost_ret (v := .tuple #[.string l, .bool false]) (by simp [results, Tryd.results71, go_sem]) rfl ⟨rfl, bA.trans (b1.mono bA.size)⟩
  · rw [if_neg (fun h => h2 h.1)]
    have hb2 : (p.toList == []) = false := cne h2 rfl
    clear h2
    by_cases h1 : p = xmlnsB
    · subst h1
      unfold xmlnsB at c1
      clear hb2
      go_enter Tryd.func71, Tryd.ntmps71
      go_wp2_with fail
      refine (c1 _).mono ?_
      rintro e w1 ⟨rfl, b1⟩
      go_wp2
      exact bodyPost_ret (v := .tuple #[.string l, .bool true]) (by simp [results, Tryd.results71, go_sem]) rfl ⟨rfl, bA.trans (b1.mono bA.size)⟩
    · have hb1 : (p.toList == [120, 109, 108, 110, 115]) = false := cne h1 rfl
      have hdd : decide (p = xmlnsB) = false := decide_eq_false h1
      rw [hdd]
      clear h1 hdd
      go_enter Tryd.func71, Tryd.ntmps71
      go_wp2_with fail
      refine (c1 _).mono ?_
      rintro e w1 ⟨rfl, b1⟩
      go_wp2
      exact bodyPost_ret (v := .tuple #[.string l, .bool false]) (by simp [results, Tryd.results71, go_sem]) rfl ⟨rfl, bA.trans (b1.mono bA.size)⟩
abbrev Bd := ByteArray × ByteArray
def bdCells (x : Bd) : List Value := [.string x.1, .string x.2]
def bdsCells (l : List Bd) : List Value := l.flatMap bdCells
theorem bdsCells_len (l : List Bd) : (bdsCells l).length = l.length * 2 := by
  induction l with
  | nil => rfl
  | cons x r ih => rw [bdsCells, List.flatMap_cons, List.length_append, List.length_cons]; rw [bdsCells] at ih; rw [ih]; show 2 + _ = _; omega
theorem bdsCells_app (l m : List Bd) : bdsCells (l ++ m) = bdsCells l ++ bdsCells m := by unfold bdsCells; rw [List.flatMap_append]
theorem bdsCells_at : ∀ (l : List Bd) (i : Nat) (h : i < l.length) (k : Nat), k < 2 → (bdsCells l)[i * 2 + k]? = (bdCells l[i])[k]?
  | [], i, h, _, _ => absurd h (Nat.not_lt_zero _)
  | x :: r, 0, _, k, hk => by
    show (bdCells x ++ bdsCells r)[0 * 2 + k]? = (bdCells x)[k]?
    rw [List.getElem?_append_left (by show 0 * 2 + k < 2; omega)]
    simp
  | x :: r, i + 1, h, k, hk => by
    show (bdCells x ++ bdsCells r)[(i + 1) * 2 + k]? = _
    rw [List.getElem?_append_right (by show 2 ≤ (i + 1) * 2 + k; omega)]
    show (bdsCells r)[(i + 1) * 2 + k - 2]? = _
    rw [show (i + 1) * 2 + k - 2 = i * 2 + k by omega, bdsCells_at r i (by simpa using h) k hk]
    rfl
theorem bd_one (x : Bd) : ∀ u ∈ bdCells x, u.oneCell' = true := by
  intro u hu
  simp [bdCells] at hu
  rcases hu with rfl | rfl <;> rfl
theorem bds_one (l : List Bd) : ∀ u ∈ bdsCells l, u.oneCell' = true := by
  intro u hu
  obtain ⟨x, _, hx⟩ := List.mem_flatMap.1 hu
  exact bd_one x u hx
theorem bd_new (w : World) (t : TypeId) (x : Bd) : ∀ j u, (bdCells x)[j]? = some u → (w.alloc (.cells #[.string x.1, .string x.2] t)).cell? ((⟨w.heap.size, 0, none⟩ : Addr).add j) = some u := by
  intro j u hu
  rw [addr_add, World.cell?_alloc_at _ _ _ _ rfl, List.getElem?_toArray]
  exact hu
theorem kinfo_bd : (Tryd.prog.info? 137).map (fun i => (i.zero, i.size, i.bytes)) = some (some (.agg #[.string ⟨#[]⟩, .string ⟨#[]⟩]), 2, 32) := by kernel_rfl
theorem bds_of_row {w : World} {base : Nat} {t : TypeId} {A : Option Addr} {n c : Nat} {l : List Bd} (h : w.ownsRow base t 2 (.slice A n c) n (bdsCells l)) : ∀ i (_ : i < l.length), ∃ g, A = some ⟨g, 0, none⟩ ∧ w.cell? ⟨g, i * 2, none⟩ = some (.string l[i].1) ∧ w.cell? ⟨g, i * 2 + 1, none⟩ = some (.string l[i].2) := by
  intro i hi
  have hc := fun g => h.cells (g := g)
  rcases h.2 with ⟨h0, h1⟩ | ⟨g, cap, cur, hv, _⟩
  · have := h.1
    rw [bdsCells_len, h1] at this
    omega
  · injection hv with hA
    subst hA
    have hk : ∀ k v, k < 2 → (bdCells l[i])[k]? = some v → w.cell? (((⟨g, 0, none⟩ : Addr).add (i * 2)).add k) = some v := by
      intro k v hk hv
      rw [addr_add2, ← addr_add]
      exact hc g rfl (i * 2 + k) v (by rw [bdsCells_at l i hi k hk]; exact hv)
    have q0 := hk 0 _ (by omega) rfl
    have q1 := hk 1 _ (by omega) rfl
    rw [addr_add2] at q0 q1
    exact ⟨g, rfl, q0, q1⟩
theorem lookB_rev (L : List Bd) (q : ByteArray) (k : Nat) (hk : k < L.length) : lookB ((L.take (k + 1)).reverse) q = if L[k].1 = q then some L[k].2 else lookB ((L.take k).reverse) q := by
  rw [List.take_add_one, List.getElem?_eq_getElem hk]
  simp only [Option.toList_some, List.reverse_append, List.reverse_cons, List.reverse_nil, List.nil_append, List.singleton_append]
  rw [lookB]
set_option maxRecDepth 100000 in
set_option maxHeartbeats 4000000 in
theorem nref_lookup (L : List Bd) (q : ByteArray) (pa : Option Addr) (ca lo : Nat) (w : World) (hR : w.ownsRow lo 137 2 (.slice pa L.length ca) L.length (bdsCells L)) (hl : L.length ≤ 1000000000) : Calls Tryd.prog 72 #[.slice pa L.length ca, .string q] w fun e w' => e = .returned (.tuple #[.string ((lookP L.reverse q).getD noB), .bool (lookP L.reverse q).isSome]) ∧ w' = w := by
  have hrd := bds_of_row hR
  have hlook : lookP L.reverse q = if q = xmlB then some xmlSp else lookB L.reverse q := rfl
  by_cases hx : q = xmlB
  · rw [if_pos hx] at hlook
    rw [hlook]
    subst hx
    clear hlook hrd hR
    unfold xmlB
    go_enter Tryd.func72, Tryd.ntmps72
    go_wp2
    exact bodyPost_ret (v := .tuple #[.string xmlSp, .bool true]) (by simp [results, Tryd.results72, go_sem, xmlSp]) rfl ⟨rfl, rfl⟩
  · rw [if_neg hx] at hlook
    have hxb : (q.toList == [120, 109, 108]) = false := cne hx rfl
    have HLK := Lib.hid hlook
    have HRD := Lib.hid hrd
    clear hlook hx hrd hR
    go_enter Tryd.func72, Tryd.ntmps72
    go_wp2
    go_loopw [6] (fun v wr => ∃ (k : Nat) (z : Int), k ≤ L.length ∧ z + 1 = k ∧ v = .int .i64 z ∧ lookB L.reverse q = lookB ((L.take k).reverse) q ∧ wr = w) (fun v _ => (intOf v + 1).toNat)
    case atStart => exact ⟨L.length, (L.length : Int) - 1, Nat.le_refl _, by omega, by go_num, by rw [List.take_length], rfl⟩
    case round =>
      obtain ⟨k, z, hk, hz, rfl, hlo, rfl⟩ := hrel
      cases k with
      | zero =>
        obtain rfl : z = -1 := by omega
        rw [List.take_zero, List.reverse_nil, lookB] at hlo
        by_cases hq : q = noB
        · rw [if_pos hq] at hlo
          have HP := Lib.hid (HLK.out.trans hlo)
          subst hq
          clear hlo hxb HLK HRD
          have hqe : (noB.toList == ([] : List UInt8)) = true := by rw [ByteArray.toList_eq]; rfl
          go_wp2
          exact bodyPost_ret (v := .tuple #[.string ⟨#[]⟩, .bool true]) (by simp [results, Tryd.results72, go_sem]) rfl ⟨by rw [HP.out]; rfl, rfl⟩
        · rw [if_neg hq] at hlo
          have HP := Lib.hid (HLK.out.trans hlo)
          have hqe : (q.toList == ([] : List UInt8)) = false := cne hq rfl
          clear hlo hxb HLK HRD hq
          go_wp2
          exact bodyPost_ret (v := .tuple #[.string ⟨#[]⟩, .bool false]) (by simp [results, Tryd.results72, go_sem]) rfl ⟨by rw [HP.out]; rfl, rfl⟩
      | succ k =>
        obtain rfl : z = (k : Int) := by omega
        have hkl : k < L.length := by omega
        obtain ⟨g, rfl, r0, r1⟩ := HRD.out k hkl
        rw [lookB_rev L q k hkl] at hlo
        obtain ⟨x, hx2⟩ : ∃ x, L[k] = x := ⟨_, rfl⟩
        rw [hx2] at r0 r1 hlo
        obtain ⟨x1, x2⟩ := x
        simp only at r0 r1 hlo
        have hk0 : (0 : Int) ≤ (k : Int) := by omega
        have hkz : (k : Int) < (L.length : Int) := by omega
        by_cases he : x1 = q
        · rw [if_pos he] at hlo
          have HP := Lib.hid (HLK.out.trans hlo)
          subst he
          clear hlo hxb HLK HRD hx2
          go_wp2
          exact bodyPost_ret (v := .tuple #[.string x2, .bool true]) (by simp [results, Tryd.results72, go_sem]) rfl ⟨by rw [HP.out]; rfl, rfl⟩
        · rw [if_neg he] at hlo
          have he2 := str_ne2 he
          have he3 := str_ne3 he
          have HLO := Lib.hid hlo
          clear hlo hx2 he
          go_wp2
          go_roundw
          case rel => exact ⟨k, (k : Int) - 1, by omega, by omega, by go_num, HLO.out, trivial⟩
          case measure => simp [intOf]
end Go.Proofs.YtoehcholbcchcaaDoor
end
