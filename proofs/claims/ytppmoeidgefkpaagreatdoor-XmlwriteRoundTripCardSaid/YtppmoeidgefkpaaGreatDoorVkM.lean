/- Packed from the texts WrA WrB WrC WrD. -/
import Derived.Test.YtppmoeidgefkpaaGreatDoorVChk
import Derived.Test.YtppmoeidgefkpaaGreatDoorVEscB
import Derived.Test.YtppmoeidgefkpaaGreatDoorVTokA
import Derived.Test.YtppmoeidgefkpaaGreatDoorVkF
import Derived.BigQuiet
import Derived.Deep.RegionHeld3
section
namespace Go.Proofs.YtppmoeidgefkpaaGreatDoor
open Go.RowKit
def charsB (s : ByteArray) : Bool := (chk s).2 == 0
def noneB (s : ByteArray) : Bool := s.size == 0
def attrOk (x : AttrD) : Bool := noneB x.sp && (isQB x.nm && charsB x.va)
def inNms (s : ByteArray) (l : List AttrD) : Bool := l.any fun y => decide (y.nm = s)
def attrsOk : List AttrD → List AttrD → Bool
  | _, [] => true
  | done, x :: r => attrOk x && (!inNms x.nm done && attrsOk (done ++ [x]) r)
def NodeD.dataOk (n : NodeD) : Bool := !noneB n.tx && (charsB n.tx && (noneB n.sp && (noneB n.nm && (n.al.length == 0 && n.kids.length == 0))))
def NodeD.headOk (n : NodeD) : Bool := noneB n.sp && (noneB n.tx && isQB n.nm)
def NodeD.isCD (n : NodeD) : Bool := decide (n.kind = 1)
mutual
def NodeD.okB : NodeD → Bool
  | .mk k sp nm al kids tx a => if k = 1 then (NodeD.mk k sp nm al kids tx a).dataOk else if k = 0 then (NodeD.mk k sp nm al kids tx a).headOk && (attrsOk [] al && okBs false kids) else false
def okBs : Bool → List NodeD → Bool
  | _, [] => true
  | p, k :: r => (k.okB && !(p && k.isCD)) && okBs k.isCD r
end
theorem ok_eq (n : NodeD) : n.okB = if n.kind = 1 then n.dataOk else if n.kind = 0 then n.headOk && (attrsOk [] n.al && okBs false n.kids) else false := by cases n; rw [NodeD.okB]; rfl
def prevC (l : List NodeD) (i : Nat) : Bool := match i with
  | 0 => false
  | j + 1 => (l[j]?).any NodeD.isCD
theorem prevC_zero (l : List NodeD) : prevC l 0 = false := rfl
theorem prevC_succ (l : List NodeD) (i : Nat) (h : i < l.length) : prevC l (i + 1) = l[i].isCD := by
  show (l[i]?).any NodeD.isCD = _
  rw [List.getElem?_eq_getElem h]; rfl
theorem okBs_drop (l : List NodeD) (i : Nat) (h : i < l.length) : okBs (prevC l i) (l.drop i) = ((l[i].okB && !(prevC l i && l[i].isCD)) && okBs (prevC l (i + 1)) (l.drop (i + 1))) := by
  rw [List.drop_eq_getElem_cons h, okBs, prevC_succ l i h]
theorem attrsOk_drop (l : List AttrD) (i : Nat) (h : i < l.length) : attrsOk (l.take i) (l.drop i) = (attrOk l[i] && (!inNms l[i].nm (l.take i) && attrsOk (l.take (i + 1)) (l.drop (i + 1)))) := by
  rw [List.drop_eq_getElem_cons h, attrsOk, ← List.take_succ_eq_append_getElem h]
mutual
def NodeD.okD : NodeD → Nat → Bool
  | .mk k sp nm al kids tx a, d => if k = 1 then (NodeD.mk k sp nm al kids tx a).dataOk else if k = 0 then decide (d ≤ 100) && ((NodeD.mk k sp nm al kids tx a).headOk && (attrsOk [] al && okDs false kids (d + 1))) else false
def okDs : Bool → List NodeD → Nat → Bool
  | _, [], _ => true
  | p, k :: r, d => (!(p && k.isCD) && k.okD d) && okDs k.isCD r d
end
theorem okD_eq (n : NodeD) (d : Nat) : n.okD d = if n.kind = 1 then n.dataOk else if n.kind = 0 then decide (d ≤ 100) && (n.headOk && (attrsOk [] n.al && okDs false n.kids (d + 1))) else false := by cases n; rw [NodeD.okD]; rfl
theorem okDs_drop (l : List NodeD) (i d : Nat) (h : i < l.length) : okDs (prevC l i) (l.drop i) d = ((!(prevC l i && l[i].isCD) && l[i].okD d) && okDs (prevC l (i + 1)) (l.drop (i + 1)) d) := by
  rw [List.drop_eq_getElem_cons h, okDs, prevC_succ l i h]
theorem depths_le : ∀ (l : List NodeD) (m b : Nat), depths l m ≤ b ↔ m ≤ b ∧ ∀ k ∈ l, k.depth ≤ b
  | [], m, b => by rw [depths]; simp
  | k :: r, m, b => by
    rw [depths, depths_le r]
    simp only [List.mem_cons, forall_eq_or_imp]
    rw [Nat.max_le, and_assoc]
mutual
theorem okD_okB : ∀ (n : NodeD) (d : Nat), d ≤ 101 → n.okD d = (n.okB && decide (n.depth + d ≤ 101))
  | .mk k sp nm al kids tx a, d, hd => by
    rw [NodeD.okD, NodeD.okB, NodeD.depth]
    by_cases h1 : k = 1
    · rw [if_pos h1, if_pos h1, if_pos h1, decide_eq_true (by omega), Bool.and_true]
    · rw [if_neg h1, if_neg h1, if_neg h1]
      by_cases h0 : k = 0
      · rw [if_pos h0, if_pos h0]
        by_cases hd1 : d ≤ 100
        · rw [decide_eq_true hd1, Bool.true_and, okDs_okBs false kids (d + 1) (by omega)]
          have : decide (∀ k ∈ kids, k.depth + (d + 1) ≤ 101) = decide (depths kids 0 + 1 + d ≤ 101) := by
            apply decide_eq_decide.2
            rw [show depths kids 0 + 1 + d ≤ 101 ↔ depths kids 0 ≤ 100 - d by omega, depths_le]
            constructor
            · intro h
              exact ⟨Nat.zero_le _, fun k hk => by have := h k hk; omega⟩
            · intro h k hk
              have := h.2 k hk
              omega
          rw [this]
          simp only [Bool.and_assoc]
        · rw [decide_eq_false hd1, Bool.false_and, decide_eq_false (by omega), Bool.and_false]
      · rw [if_neg h0, if_neg h0, Bool.false_and]
theorem okDs_okBs : ∀ (p : Bool) (l : List NodeD) (d : Nat), d ≤ 101 → okDs p l d = (okBs p l && decide (∀ k ∈ l, k.depth + d ≤ 101))
  | p, [], d, _ => by rw [okDs, okBs]; simp
  | p, k :: r, d, hd => by
    rw [okDs, okBs, okD_okB k d hd, okDs_okBs k.isCD r d hd]
    simp only [List.mem_cons, forall_eq_or_imp]
    rw [Bool.decide_and]
    cases k.okB <;> cases okBs k.isCD r <;> cases decide (k.depth + d ≤ 101) <;> cases (!(p && k.isCD)) <;> simp
end
def NodeD.goodB (n : NodeD) : Bool := decide (n.kind = 0) && (decide (n.depth ≤ 100) && n.okB)
theorem good_okD (n : NodeD) : n.goodB = (decide (n.kind = 0) && n.okD 1) := by
  rw [okD_okB n 1 (by decide)]
  unfold NodeD.goodB
  by_cases h : n.depth ≤ 100
  · rw [decide_eq_true h, decide_eq_true (show n.depth + 1 ≤ 101 by omega), Bool.true_and, Bool.and_true]
  · rw [decide_eq_false h, decide_eq_false (show ¬ n.depth + 1 ≤ 101 by omega), Bool.false_and, Bool.and_false, Bool.and_false, Bool.and_false]
def errP (n : NodeD) : Int := if n.goodB then 0 else 22
def attrF (x : AttrD) : List UInt8 := 32 :: (x.nm.data.toList ++ (61 :: 34 :: (escP true x.va.data.toList ++ [34])))
def attrsF (l : List AttrD) : List UInt8 := l.flatMap attrF
theorem attrsF_cons (x : AttrD) (r : List AttrD) : attrsF (x :: r) = attrF x ++ attrsF r := by unfold attrsF; rw [List.flatMap_cons]
mutual
def NodeD.form : NodeD → List UInt8
  | .mk k _ nm al kids tx _ => if k = 1 then escP false tx.data.toList else 60 :: (nm.data.toList ++ (attrsF al ++ (if kids.length = 0 then [47, 62] else 62 :: (forms kids ++ (60 :: 47 :: (nm.data.toList ++ [62]))))))
def forms : List NodeD → List UInt8
  | [] => []
  | k :: r => k.form ++ forms r
end
theorem form_eq (n : NodeD) : n.form = if n.kind = 1 then escP false n.tx.data.toList else 60 :: (n.nm.data.toList ++ (attrsF n.al ++ (if n.kids.length = 0 then [47, 62] else 62 :: (forms n.kids ++ (60 :: 47 :: (n.nm.data.toList ++ [62])))))) := by cases n; rw [NodeD.form]; rfl
def headP : List UInt8 := [60, 63, 120, 109, 108, 32, 118, 101, 114, 115, 105, 111, 110, 61, 34, 49, 46, 48, 34, 32, 101, 110, 99, 111, 100, 105, 110, 103, 61, 34, 85, 84, 70, 45, 56, 34, 63, 62, 10]
def docP (n : NodeD) : List UInt8 := headP ++ (n.form ++ [10])
def writeP (n : NodeD) : ByteArray := if n.goodB then ofBytes (docP n) else ⟨#[]⟩
theorem blen (s : ByteArray) : s.data.toList.length = s.size := by simp
theorem attrsF_len : ∀ l : List AttrD, (attrsF l).length ≤ 6 * (l.map fun x => 1 + x.sp.size + x.nm.size + x.va.size).sum
  | [] => Nat.le_refl _
  | x :: r => by
    have h1 := attrsF_len r
    have h2 := escP_len true x.va.data.toList
    rw [blen] at h2
    rw [attrsF_cons, List.length_append, List.map_cons, List.sum_cons]
    unfold attrF
    simp only [List.length_cons, List.length_append, List.length_nil, blen]
    omega
mutual
theorem form_len : ∀ n : NodeD, n.form.length ≤ 6 * n.mass
  | .mk k sp nm al kids tx a => by
    have h1 := forms_len kids
    have h2 := escP_len false tx.data.toList
    have h3 := attrsF_len al
    rw [blen] at h2
    rw [NodeD.form, NodeD.mass]
    split
    · omega
    · split
      all_goals
        simp only [List.length_cons, List.length_append, List.length_nil, blen]
        omega
theorem forms_len : ∀ l : List NodeD, (forms l).length ≤ 6 * masses l
  | [] => Nat.le_refl _
  | k :: r => by
    have h1 := form_len k
    have h2 := forms_len r
    rw [forms, masses, List.length_append]
    omega
end
theorem mass_eq (n : NodeD) : n.mass = 1 + n.sp.size + n.nm.size + n.tx.size + (n.al.map fun x => 1 + x.sp.size + x.nm.size + x.va.size).sum + masses n.kids := by cases n; rw [NodeD.mass]; rfl
theorem masses_mem : ∀ (l : List NodeD) (k : NodeD), k ∈ l → k.mass ≤ masses l
  | [], _, h => by cases h
  | x :: r, k, h => by
    rw [masses]
    rcases List.mem_cons.1 h with rfl | h
    · omega
    · have := masses_mem r k h
      omega
theorem mass_kid (n k : NodeD) (h : k ∈ n.kids) : k.mass < n.mass := by
  have := masses_mem _ k h
  rw [mass_eq n]
  omega
theorem masses_len : ∀ l : List NodeD, l.length ≤ masses l
  | [] => Nat.le_refl _
  | k :: r => by
    have := masses_len r
    have := mass_eq k
    rw [List.length_cons, masses]
    omega
theorem sum_mem : ∀ (l : List AttrD) (x : AttrD), x ∈ l → 1 + x.sp.size + x.nm.size + x.va.size ≤ (l.map fun x => 1 + x.sp.size + x.nm.size + x.va.size).sum
  | [], _, h => by cases h
  | y :: r, x, h => by
    rw [List.map_cons, List.sum_cons]
    rcases List.mem_cons.1 h with rfl | h
    · omega
    · have := sum_mem r x h
      omega
mutual
theorem cnt_mass : ∀ n : NodeD, n.cnt ≤ n.mass
  | .mk _ sp nm al kids tx _ => by
    rw [NodeD.cnt, NodeD.mass]
    have := cnts_mass kids
    omega
theorem cnts_mass : ∀ l : List NodeD, cnts l ≤ masses l
  | [] => Nat.le_refl _
  | k :: r => by
    rw [cnts, masses]
    have h1 := cnt_mass k
    have h2 := cnts_mass r
    omega
end
theorem mass_of {n : NodeD} (h : ¬ 5000 < n.wgt 0) : n.mass ≤ 5000 := by
  have h1 := wgt_mass n 0 (by omega)
  omega
theorem str_none {s : ByteArray} (h : s.size = 0) : s = ⟨#[]⟩ := by
  cases s with | mk d => simp [ByteArray.size] at h; subst h; rfl
theorem str_some {s : ByteArray} (h : s.size ≠ 0) : s.toList.isEmpty = false ∧ (s.toList == []) = false ∧ (s.toList != []) = true ∧ ¬ s.toList = [] := by
  have h1 : ¬ s.toList = [] := by
    intro e
    have := Lib.size_eq s
    rw [← Lib.toList_data, e] at this
    exact h this
  refine ⟨by simpa using h1, by simpa using h1, by simpa using h1, h1⟩
theorem noneB_t {s : ByteArray} (h : s.size = 0) : noneB s = true := by unfold noneB; rw [h]; rfl
theorem noneB_f {s : ByteArray} (h : s.size ≠ 0) : noneB s = false := by unfold noneB; simpa using h
end Go.Proofs.YtppmoeidgefkpaaGreatDoor
end
section
namespace Go.Proofs.YtppmoeidgefkpaaGreatDoor
open Go.RowKit
theorem trN {a b : Bool} (h : a = b) : Ending.returned (.bool a) = .returned (.bool b) := by rw [h]
set_option maxRecDepth 100000 in
theorem wref_chars (s : ByteArray) (w : World) (hs : s.size ≤ 1000000) : Calls Tryz.prog 34 #[.string s] w fun e w' => e = .returned (.bool (charsB s)) ∧ Below w.heap.size w w' := by
  have c1 := fun wx => ref_Check s wx (by unfold maxLen; omega)
  have hc : charsB s = ((chk s).2 == 0) := rfl
  rw [hc]
  clear hc
  generalize chk s = p at *
  obtain ⟨p1, p2⟩ := p
  simp only at c1 ⊢
  by_cases h : p2 = 0
  · subst h
    go_enter Tryz.func34, Tryz.ntmps34
    go_wp2_with fail
    refine (c1 _).mono ?_
    rintro e w1 ⟨rfl, b1⟩
    go_wp2
    go_ret
    exact ⟨rfl, b1⟩
  · have hz : ((p2 : Int) == 0) = false := by simp; omega
    have hb : (p2 == 0) = false := by simpa using h
    rw [hb]
    go_enter Tryz.func34, Tryz.ntmps34
    go_wp2_with fail
    refine (c1 _).mono ?_
    rintro e w1 ⟨rfl, b1⟩
    go_wp2
    go_ret
    exact ⟨rfl, b1⟩
set_option maxRecDepth 100000 in
set_option maxHeartbeats 8000000 in
theorem wref_data (n : NodeD) (v : Value) (w : World) (hk1 : n.kind = 1) (hm : n.mass ≤ 1000000) (hn : NodeIs w n v) : Calls Tryz.prog 14 #[v] w fun e w' => e = .returned (.bool n.dataOk) ∧ Below w.heap.size w w' := by
  have hme := mass_eq n
  have hml := masses_len n.kids
  have hsl := sum_len n.al
  have hD : n.dataOk = (!noneB n.tx && (charsB n.tx && (noneB n.sp && (noneB n.nm && (n.al.length == 0 && n.kids.length == 0))))) := rfl
  have c1 : ∀ wx, _ := fun wx => wref_chars n.tx wx (by omega)
  obtain ⟨pa, ca, pk, ck, rfl, -, -⟩ := (node_is w n v).1 hn
  have hal : (n.al.length : Int) ≤ 1000000 := by omega
  have hkl : (n.kids.length : Int) ≤ 1000000 := by omega
  have hbe : ∀ o : Obj, Below w.heap.size w (w.alloc o) := fun o => (Below.refl _ _).alloc (Nat.le_refl _) _
  have hze : ∀ o : Obj, (w.alloc o).heap.size = w.heap.size + 1 := fun o => by simp
  have HB := Lib.hid (Blk.new w #[.int .i64 n.kind, .string n.sp, .string n.nm, .slice pa n.al.length ca, .slice pk n.kids.length ck, .string n.tx, .int .i64 n.at'] 25)
  rw [hk1] at HB
  rw [hD, hk1]
  clear hn hme hml hsl hm hD hk1
  generalize n.sp = s1 at *
  generalize n.nm = s2 at *
  generalize n.tx = s3 at *
  generalize n.al.length = la at *
  generalize n.kids.length = lk at *
  generalize n.at' = at0 at *
  by_cases h3 : s3.size = 0
  · obtain rfl := str_none h3
    go_enter Tryz.func14, Tryz.ntmps14
    go_wp2
    go_ret
    exact ⟨rfl, hbe _⟩
  rw [noneB_f h3]
  obtain ⟨u1, u2, u3, u4⟩ := str_some h3
  clear h3
  generalize charsB s3 = B at *
  cases B
  · go_enter Tryz.func14, Tryz.ntmps14
    go_wp2_with fail
    refine (c1 _).mono ?_
    rintro e w1 ⟨rfl, b1⟩
    have b2 := (hbe _).trans (b1.mono (by rw [hze]; omega))
    go_wp2
    go_ret
    exact ⟨rfl, b2⟩
  by_cases h1 : s1.size = 0
  case neg =>
    rw [noneB_f h1]
    obtain ⟨v1, v2, v3, v4⟩ := str_some h1
    clear h1
    go_enter Tryz.func14, Tryz.ntmps14
    go_wp2_with fail
    refine (c1 _).mono ?_
    rintro e w1 ⟨rfl, b1⟩
    have b2 := (hbe _).trans (b1.mono (by rw [hze]; omega))
    have PB := HB.out.more b1
    have f1 : w1.cell? ⟨w.heap.size, 1, none⟩ = some (.string _) := PB.cell 1
    have f2 : w1.cell? ⟨w.heap.size, 2, none⟩ = some (.string _) := PB.cell 2
    have f3 : w1.cell? ⟨w.heap.size, 3, none⟩ = some (.slice pa _ ca) := PB.cell 3
    have f4 : w1.cell? ⟨w.heap.size, 4, none⟩ = some (.slice pk _ ck) := PB.cell 4
    clear PB b1
    go_wp2
    go_ret
    exact ⟨rfl, b2⟩
  obtain rfl := str_none h1
  by_cases h2 : s2.size = 0
  case neg =>
    rw [noneB_f h2]
    obtain ⟨v1, v2, v3, v4⟩ := str_some h2
    clear h2
    go_enter Tryz.func14, Tryz.ntmps14
    go_wp2_with fail
    refine (c1 _).mono ?_
    rintro e w1 ⟨rfl, b1⟩
    have b2 := (hbe _).trans (b1.mono (by rw [hze]; omega))
    have PB := HB.out.more b1
    have f1 : w1.cell? ⟨w.heap.size, 1, none⟩ = some (.string _) := PB.cell 1
    have f2 : w1.cell? ⟨w.heap.size, 2, none⟩ = some (.string _) := PB.cell 2
    have f3 : w1.cell? ⟨w.heap.size, 3, none⟩ = some (.slice pa _ ca) := PB.cell 3
    have f4 : w1.cell? ⟨w.heap.size, 4, none⟩ = some (.slice pk _ ck) := PB.cell 4
    clear PB b1
    go_wp2
    go_ret
    exact ⟨rfl, b2⟩
  obtain rfl := str_none h2
  by_cases h4 : la = 0
  case neg =>
    have q1 : (la == 0) = false := by simpa using h4
    have q2 : ((la : Int) == 0) = false := by simp; omega
    rw [q1]
    clear h4 q1
    go_enter Tryz.func14, Tryz.ntmps14
    go_wp2_with fail
    refine (c1 _).mono ?_
    rintro e w1 ⟨rfl, b1⟩
    have b2 := (hbe _).trans (b1.mono (by rw [hze]; omega))
    have PB := HB.out.more b1
    have f1 : w1.cell? ⟨w.heap.size, 1, none⟩ = some (.string _) := PB.cell 1
    have f2 : w1.cell? ⟨w.heap.size, 2, none⟩ = some (.string _) := PB.cell 2
    have f3 : w1.cell? ⟨w.heap.size, 3, none⟩ = some (.slice pa _ ca) := PB.cell 3
    have f4 : w1.cell? ⟨w.heap.size, 4, none⟩ = some (.slice pk _ ck) := PB.cell 4
    clear PB b1
    go_wp2
    go_ret
    exact ⟨rfl, b2⟩
  subst h4
  by_cases h5 : lk = 0
  case neg =>
    have q1 : (lk == 0) = false := by simpa using h5
    have q2 : ((lk : Int) == 0) = false := by simp; omega
    rw [q1]
    clear h5 q1
    go_enter Tryz.func14, Tryz.ntmps14
    go_wp2_with fail
    refine (c1 _).mono ?_
    rintro e w1 ⟨rfl, b1⟩
    have b2 := (hbe _).trans (b1.mono (by rw [hze]; omega))
    have PB := HB.out.more b1
    have f1 : w1.cell? ⟨w.heap.size, 1, none⟩ = some (.string _) := PB.cell 1
    have f2 : w1.cell? ⟨w.heap.size, 2, none⟩ = some (.string _) := PB.cell 2
    have f3 : w1.cell? ⟨w.heap.size, 3, none⟩ = some (.slice pa _ ca) := PB.cell 3
    have f4 : w1.cell? ⟨w.heap.size, 4, none⟩ = some (.slice pk _ ck) := PB.cell 4
    clear PB b1
    go_wp2
    go_ret
    exact ⟨rfl, b2⟩
  subst h5
  go_enter Tryz.func14, Tryz.ntmps14
  go_wp2_with fail
  refine (c1 _).mono ?_
  rintro e w1 ⟨rfl, b1⟩
  have b2 := (hbe _).trans (b1.mono (by rw [hze]; omega))
  have PB := HB.out.more b1
  have f1 : w1.cell? ⟨w.heap.size, 1, none⟩ = some (.string _) := PB.cell 1
  have f2 : w1.cell? ⟨w.heap.size, 2, none⟩ = some (.string _) := PB.cell 2
  have f3 : w1.cell? ⟨w.heap.size, 3, none⟩ = some (.slice pa _ ca) := PB.cell 3
  have f4 : w1.cell? ⟨w.heap.size, 4, none⟩ = some (.slice pk _ ck) := PB.cell 4
  clear PB b1
  go_wp2
  go_ret
  exact ⟨rfl, b2⟩
end Go.Proofs.YtppmoeidgefkpaaGreatDoor
end
section
namespace Go.Proofs.YtppmoeidgefkpaaGreatDoor
open Go.RowKit
def OkC (f : Nat) : Prop := ∀ (n : NodeD) (v : Value) (w : World), n.cnt ≤ f → n.mass ≤ 1000000 → NodeIs w n v → Calls Tryz.prog 14 #[v] w fun e w' => e = .returned (.bool n.okB) ∧ Below w.heap.size w w'
theorem inNms_drop (s : ByteArray) (l : List AttrD) (j : Nat) (h : j < l.length) : inNms s (l.drop j) = (decide (l[j].nm = s) || inNms s (l.drop (j + 1))) := by
  unfold inNms
  rw [List.drop_eq_getElem_cons h, List.any_cons]
set_option maxRecDepth 100000 in
set_option maxHeartbeats 16000000 in
theorem wref_elem (f : Nat) (IH : OkC f) (n : NodeD) (v : Value) (w : World) (hk0 : n.kind = 0) (hf : n.cnt ≤ f + 1) (hm : n.mass ≤ 1000000) (hn : NodeIs w n v) : Calls Tryz.prog 14 #[v] w fun e w' => e = .returned (.bool n.okB) ∧ Below w.heap.size w w' := by
  have hme := mass_eq n
  have hml := masses_len n.kids
  have hsl := sum_len n.al
  have hD : n.okB = ((noneB n.sp && (noneB n.tx && isQB n.nm)) && (attrsOk [] n.al && okBs false n.kids)) := by rw [ok_eq, if_neg (by omega), if_pos hk0]; rfl
  have hkm : ∀ k ∈ n.kids, k.cnt ≤ f ∧ k.mass ≤ 1000000 := fun k hk => by
    have h1 := cnt_kid n k hk
    have h2 := mass_kid n k hk
    omega
  have ham : ∀ x ∈ n.al, x.nm.size ≤ 1000000 ∧ x.va.size ≤ 1000000 := fun x hx => by
    have := sum_mem _ x hx
    omega
  have HKM := Lib.hid hkm
  have HAM := Lib.hid ham
  have c1 : ∀ wx, _ := fun wx => tref_IsQName n.nm wx (by unfold maxLen; omega)
  obtain ⟨pa, ca, pk, ck, rfl, hA, hK⟩ := (node_is w n v).1 hn
  have hal : (n.al.length : Int) ≤ 1000000 := by omega
  have hkl : (n.kids.length : Int) ≤ 1000000 := by omega
  have HB := Blk.new w #[.int .i64 n.kind, .string n.sp, .string n.nm, .slice pa n.al.length ca, .slice pk n.kids.length ck, .string n.tx, .int .i64 n.at'] 25
  have B0 : Below w.heap.size w (w.alloc (.cells #[.int .i64 n.kind, .string n.sp, .string n.nm, .slice pa n.al.length ca, .slice pk n.kids.length ck, .string n.tx, .int .i64 n.at'] 25)) := (Below.refl _ _).alloc (Nat.le_refl _) _
  have hz0 : (w.alloc (.cells #[.int .i64 n.kind, .string n.sp, .string n.nm, .slice pa n.al.length ca, .slice pk n.kids.length ck, .string n.tx, .int .i64 n.at'] 25)).heap.size = w.heap.size + 1 := by simp
  have HIH := Lib.hid (fun (k : NodeD) (hk : k ∈ n.kids) (v : Value) (wx : World) (h : NodeIs wx k v) => IH k v wx (HKM.out k hk).1 (HKM.out k hk).2 h)
  have HD := Lib.hid hD
  clear hn hme hml hsl hm hD hkm ham hf HKM IH
  generalize n.okB = R at *
  rw [hk0] at HB B0 hz0 ⊢
  clear hk0
  generalize n.sp = s1 at *
  generalize n.nm = s2 at *
  generalize n.tx = s3 at *
  generalize n.al = al at *
  generalize n.kids = kids at *
  generalize n.at' = at0 at *
  obtain ⟨W, hW⟩ : ∃ W, W = w.alloc (.cells #[.int .i64 0, .string s1, .string s2, .slice pa al.length ca, .slice pk kids.length ck, .string s3, .int .i64 at0] 25) := ⟨_, rfl⟩
  have HN := Lib.hid HB
  rw [← hW] at HN B0 hz0
  have p0 : W.cell? ⟨w.heap.size, 0, none⟩ = some (.int .i64 0) := HN.out.cell 0
  have p1 : W.cell? ⟨w.heap.size, 1, none⟩ = some (.string s1) := HN.out.cell 1
  have p2 : W.cell? ⟨w.heap.size, 2, none⟩ = some (.string s2) := HN.out.cell 2
  have p5 : W.cell? ⟨w.heap.size, 5, none⟩ = some (.string s3) := HN.out.cell 5
  have HB0 := Lib.hid B0
  have HK := Lib.hid (hK.below B0)
  have HA := Lib.hid (hA.below B0)
  clear HB B0 hK hA
  go_enter Tryz.func14, Tryz.ntmps14
  go_upto_region 1 with fail
  simp only [← hW]
  clear hW
  by_cases h1 : s1.size = 0
  case neg =>
    obtain ⟨v1, v2, v3, v4⟩ := str_some h1
    have HT := Lib.hid (show R = false by rw [HD.out, noneB_f h1]; rfl)
    clear h1
    go_wp2
    go_ret
    exact ⟨trN HT.out.symm, HB0.out⟩
  obtain rfl := str_none h1
  by_cases h3 : s3.size = 0
  case neg =>
    obtain ⟨v1, v2, v3, v4⟩ := str_some h3
    have HT := Lib.hid (show R = false by rw [HD.out, noneB_f h3]; rfl)
    clear h3
    go_wp2
    go_ret
    exact ⟨trN HT.out.symm, HB0.out⟩
  obtain rfl := str_none h3
  generalize isQB s2 = Q at *
  cases Q
  · go_wp2_with fail
    refine (c1 _).mono ?_
    rintro e w1 ⟨rfl, b1⟩
    have b2 := HB0.out.trans (b1.mono (by omega))
    go_wp2
    go_ret
    exact ⟨trN (by rw [HD.out]; rfl), b2⟩
  replace HD := Lib.hid (show R = (attrsOk [] al && okBs false kids) from HD.out)
  go_wp2_with fail
  refine (c1 _).mono ?_
  rintro e w1 ⟨rfl, b1⟩
  clear c1 p0 p1 p2 p5
  have hz1 := b1.size
  go_wp2
  go_loopw [3] (fun q wr => ∃ i : Nat, i ≤ al.length ∧ q = .int .i64 i ∧ attrsOk [] al = attrsOk (al.take i) (al.drop i) ∧ Below W.heap.size W wr) (fun q _ => al.length - (intOf q).toNat)
  case atStart => exact ⟨0, Nat.zero_le _, rfl, rfl, b1⟩
  case round =>
    clear b1 hz1
    obtain ⟨i, hi, rfl, hrel, hbel⟩ := hrel
    obtain ⟨wo, rfl⟩ : ∃ wo, wo = wr := ⟨_, rfl⟩
    have hzo := hbel.size
    have hbw : Below w.heap.size w wo := HB0.out.trans (hbel.mono (by omega))
    have g3 : wo.cell? ⟨w.heap.size, 3, none⟩ = some (.slice pa al.length ca) := (HN.out.more hbel).cell 3
    by_cases hlt : i < al.length
    case pos =>
      have hiz : (i : Int) < (al.length : Int) := by omega
      rw [attrsOk_drop al i hlt] at hrel
      obtain ⟨a, rfl, a0, a1, a2, a3⟩ := HA.out.below hbel i hlt
      have hxm := HAM.out _ (List.getElem_mem hlt)
      obtain ⟨x, hx⟩ : ∃ x, al[i] = x := ⟨_, rfl⟩
      rw [hx] at a0 a1 a2 a3 hrel hxm
      obtain ⟨xs, xn, xv, xa⟩ := x
      simp only at a0 a1 a2 a3 hrel hxm
      obtain ⟨cc, hcc⟩ : ∃ c, a.add (i * 4) = c := ⟨_, rfl⟩
      rw [hcc] at a0 a1 a2 a3
      simp only [Addr.add, Nat.reduceEqDiff, ↓reduceIte] at a1 a2 a3
      have hao : attrOk ⟨xs, xn, xv, xa⟩ = (noneB xs && (isQB xn && charsB xv)) := rfl
      rw [hao] at hrel
      have cQ : ∀ wx, _ := fun wx => tref_IsQName xn wx (by unfold maxLen; omega)
      have cV : ∀ wx, _ := fun wx => wref_chars xv wx hxm.2
      have hbe : ∀ o : Obj, Below w.heap.size w (wo.alloc o) := fun o => hbw.alloc (by omega) _
      have hbo : ∀ o : Obj, Below W.heap.size W (wo.alloc o) := fun o => hbel.alloc hzo _
      have hze : ∀ o : Obj, (wo.alloc o).heap.size = wo.heap.size + 1 := fun o => by simp
      have HX := Lib.hid (Blk.new wo #[.string xs, .string xn, .string xv, .int .i64 xa] 56)
      have HG := Lib.hid g3
      clear hao hx hxm
      by_cases e1 : xs.size = 0
      case neg =>
        rw [noneB_f e1] at hrel
        obtain ⟨v1, v2, v3, v4⟩ := str_some e1
        have HR := Lib.hid hrel
        clear e1 hrel
        go_wp2
        go_ret
        exact ⟨trN (by rw [HD.out, HR.out]; rfl), hbe _⟩
      obtain rfl := str_none e1
      generalize isQB xn = Q at *
      cases Q
      · have HR := Lib.hid hrel
        clear e1 hrel
        go_wp2_with fail
        refine (cQ _).mono ?_
        rintro e w2 ⟨rfl, b2⟩
        have b3 := (hbe _).trans (b2.mono (by rw [hze]; omega))
        go_wp2
        go_ret
        exact ⟨trN (by rw [HD.out, HR.out]; rfl), b3⟩
      generalize charsB xv = V at *
      cases V
      · have HR := Lib.hid hrel
        clear e1 hrel
        go_wp2_with fail
        refine (cQ _).mono ?_
        rintro e w2 ⟨rfl, b2⟩
        have b3 := (hbe _).trans (b2.mono (by rw [hze]; omega))
        have x2 : w2.cell? ⟨wo.heap.size, 2, none⟩ = some (.string xv) := (HX.out.more b2).cell 2
        go_wp2_with fail
        refine (cV _).mono ?_
        rintro e w3 ⟨rfl, b4⟩
        have b5 := b3.trans (b4.mono (by have := b2.size; rw [hze] at this; omega))
        go_wp2
        go_ret
        exact ⟨trN (by rw [HD.out, HR.out]; rfl), b5⟩
      have HR := Lib.hid (show attrsOk [] al = (!inNms xn (al.take i) && attrsOk (al.take (i + 1)) (al.drop (i + 1))) from hrel)
      clear e1 hrel
      go_wp2_with fail
      refine (cQ _).mono ?_
      rintro e w2 ⟨rfl, b2⟩
      have z2 := b2.size
      rw [hze] at z2
      have b3 := (hbo _).trans (b2.mono (by rw [hze]; omega))
      have x2 : w2.cell? ⟨wo.heap.size, 2, none⟩ = some (.string xv) := (HX.out.more b2).cell 2
      go_wp2_with fail
      refine (cV _).mono ?_
      rintro e w3 ⟨rfl, b4⟩
      have z3 := b4.size
      have b5 := b3.trans (b4.mono (by omega))
      have HXB := Lib.hid ((HX.out.more b2).more b4)
      clear x2 a0 a1 a2 a3 g3 cQ cV b3 b2 b4 hbe hbo hze hbw
      have HB5 := Lib.hid b5
      clear b5
      go_wp2
      go_loopw [5] (fun q wr => ∃ j : Nat, j ≤ i ∧ q = .int .i64 j ∧ inNms xn (al.take i) = inNms xn ((al.take i).drop j) ∧ Below w3.heap.size w3 wr) (fun q _ => i - (intOf q).toNat)
      case atStart => exact ⟨0, Nat.zero_le _, rfl, rfl, Below.refl _ _⟩
      case round =>
        obtain ⟨j, hj, rfl, hin, hb6⟩ := hrel
        obtain ⟨wi, rfl⟩ : ∃ wi, wi = wr := ⟨_, rfl⟩
        have z6 := hb6.size
        have b7 := HB5.out.trans (hb6.mono (by omega))
        have hB := HB0.out.trans (b7.mono (by omega))
        have g3 : wi.cell? ⟨w.heap.size, 3, none⟩ = some (.slice (some a) al.length ca) := (HN.out.more b7).cell 3
        have x1 : wi.cell? ⟨wo.heap.size, 1, none⟩ = some (.string xn) := (HXB.out.more hb6).cell 1
        by_cases hlj : j < i
        case pos =>
          have hjz : (j : Int) < (i : Int) := by omega
          have hjl : j < al.length := by omega
          have hjlz : (j : Int) < (al.length : Int) := by omega
          obtain ⟨a', ha', d0, d1, d2, d3⟩ := HA.out.below b7 j hjl
          cases ha'
          rw [inNms_drop xn (al.take i) j (by rw [List.length_take]; omega), List.getElem_take] at hin
          obtain ⟨y, hy⟩ : ∃ y, al[j] = y := ⟨_, rfl⟩
          rw [hy] at d0 d1 d2 d3 hin
          obtain ⟨ys, yn, yv, ya⟩ := y
          simp only at d0 d1 d2 d3 hin
          obtain ⟨dd, hdd⟩ : ∃ c, a.add (j * 4) = c := ⟨_, rfl⟩
          rw [hdd] at d0 d1 d2 d3
          simp only [Addr.add, Nat.reduceEqDiff, ↓reduceIte] at d1 d2 d3
          have HB7 := Lib.hid hb6
          have HBB := Lib.hid hB
          clear hy b7 hb6 hB
          by_cases hq : yn = xn
          case pos =>
            subst hq
            have HT := Lib.hid (show attrsOk [] al = false by rw [HR.out, hin, decide_eq_true rfl]; rfl)
            have hq2 : (yn.toList == yn.toList) = true := by simp
            clear hin
            go_wp2
            go_quiet (fail)
            go_wp2
            go_ret
            exact ⟨trN (by rw [HD.out, HT.out]; rfl), below_drewN HBB.out _⟩
          case neg =>
            have q2 := str_ne2 hq
            have q3 := str_ne3 hq
            have HI := Lib.hid (show inNms xn (al.take i) = inNms xn ((al.take i).drop (j + 1)) by rw [hin, decide_eq_false hq]; rfl)
            clear hin hq
            go_wp2
            go_quiet (fail)
            go_wp2
            go_roundw
            case rel => exact ⟨j + 1, by omega, by go_num, HI.out, below_drewN HB7.out _⟩
            case measure => simp [intOf]; omega
        case neg =>
          obtain rfl : j = i := by omega
          have HI := Lib.hid (show attrsOk [] al = attrsOk (al.take (j + 1)) (al.drop (j + 1)) by
            rw [HR.out, hin, List.drop_eq_nil_of_le (by rw [List.length_take]; omega)]; rfl)
          clear hin
          go_wp2
          go_roundw
          case rel => exact ⟨j + 1, by omega, by go_num, HI.out, b7⟩
          case measure => simp [intOf]; omega
    case neg =>
      obtain rfl : i = al.length := by omega
      have HAO := Lib.hid (show attrsOk [] al = true by rw [hrel, List.drop_eq_nil_of_le (Nat.le_refl _)]; rfl)
      have hiz : ¬ (al.length : Int) < (al.length : Int) := by omega
      clear hrel HA HAM
      replace HD := Lib.hid (show R = okBs false kids by rw [HD.out, HAO.out]; rfl)
      have HBO := Lib.hid hbel
      clear hbel hbw hzo
      go_wp2
      go_loopw [6] (fun q wr => ∃ i : Nat, i ≤ kids.length ∧ q = .int .i64 i ∧ okBs false kids = okBs (prevC kids i) (kids.drop i) ∧ Below W.heap.size W wr) (fun q _ => kids.length - (intOf q).toNat)
      case atStart => exact ⟨0, Nat.zero_le _, rfl, rfl, HBO.out⟩
      case round =>
        clear g3
        obtain ⟨i, hi, rfl, hrel, hbel⟩ := hrel
        obtain ⟨wk, rfl⟩ : ∃ wk, wk = wr := ⟨_, rfl⟩
        have hzk := hbel.size
        have hbw : Below w.heap.size w wk := HB0.out.trans (hbel.mono (by omega))
        have g4 : wk.cell? ⟨w.heap.size, 4, none⟩ = some (.slice pk kids.length ck) := (HN.out.more hbel).cell 4
        by_cases hlt : i < kids.length
        case pos =>
          have hiz2 : (i : Int) < (kids.length : Int) := by omega
          rw [okBs_drop kids i hlt] at hrel
          have HK0 := Lib.hid (HK.out.below hbel)
          obtain ⟨a, v0, v1, v2, v3, v4, v5, v6, rfl, ⟨a0, a1, a2, a3, a4, a5, a6⟩, hk⟩ := KidsAt.get kids 0 HK0.out i hlt
          rw [Nat.zero_add] at a0 a1 a2 a3 a4 a5 a6
          have c2 := HIH.out _ (List.getElem_mem hlt) _ wk hk
          obtain ⟨k, hkk⟩ : ∃ k, kids[i] = k := ⟨_, rfl⟩
          rw [hkk] at hk c2 hrel
          obtain ⟨ka, da, kq, dk, hv⟩ := node_form hk
          simp only [Value.agg.injEq, Array.mk.injEq, List.cons.injEq, and_true] at hv
          obtain ⟨rfl, rfl, rfl, rfl, rfl, rfl, rfl⟩ := hv
          obtain ⟨cc, hcc⟩ : ∃ c, a.add (i * 7) = c := ⟨_, rfl⟩
          rw [hcc] at a0 a1 a2 a3 a4 a5 a6
          simp only [Addr.add, Nat.reduceEqDiff, ↓reduceIte] at a1 a2 a3 a4 a5 a6
          generalize k.okB = V at *
          cases V
          · have HT := Lib.hid (show R = false by rw [HD.out, hrel]; rfl)
            clear hrel hk hkk
            go_wp2_with fail
            refine c2.mono ?_
            rintro e w2 ⟨rfl, b2⟩
            have b3 := hbw.trans (b2.mono (by omega))
            go_wp2
            go_ret
            exact ⟨trN (by rw [HT.out]), b3⟩
          replace hrel : okBs false kids = (!(prevC kids i && k.isCD) && okBs (prevC kids (i + 1)) (kids.drop (i + 1))) := hrel
          by_cases hi0 : i = 0
          case pos =>
            subst hi0
            have HR := Lib.hid (show okBs false kids = okBs (prevC kids (0 + 1)) (kids.drop (0 + 1)) from hrel)
            clear hrel hk hkk
            go_wp2_with fail
            refine c2.mono ?_
            rintro e w2 ⟨rfl, b2⟩
            have b3 := hbel.trans (b2.mono (by omega))
            go_wp2
            go_roundw
            case rel => exact ⟨0 + 1, by omega, by go_num, HR.out, b3⟩
            case measure => simp [intOf]; omega
          obtain ⟨j, rfl⟩ : ∃ j, i = j + 1 := ⟨i - 1, by omega⟩
          have hj0 : (0 : Int) < ((j + 1 : Nat) : Int) := by omega
          rw [prevC_succ kids j (by omega)] at hrel
          obtain ⟨a', u0, u1, u2, u3, u4, u5, u6, ha', ⟨d0, -, -, -, -, -, -⟩, hk2⟩ := KidsAt.get kids 0 HK0.out j (by omega)
          cases ha'
          rw [Nat.zero_add] at d0
          obtain ⟨l, hll⟩ : ∃ l, kids[j] = l := ⟨_, rfl⟩
          rw [hll] at hk2 hrel
          obtain ⟨qa, fa, qq, fk, hv⟩ := node_form hk2
          simp only [Value.agg.injEq, Array.mk.injEq, List.cons.injEq, and_true] at hv
          obtain ⟨rfl, rfl, rfl, rfl, rfl, rfl, rfl⟩ := hv
          have hd1 : l.isCD = decide (l.kind = 1) := rfl
          have hd2 : k.isCD = decide (k.kind = 1) := rfl
          rw [hd1, hd2] at hrel
          obtain ⟨dd, hdd⟩ : ∃ c, a.add (j * 7) = c := ⟨_, rfl⟩
          rw [hdd] at d0
          have hwj : IntKind.i64.wrap (((j + 1 : Nat) : Int) - 1) = (j : Int) := by rw [show ((j + 1 : Nat) : Int) - 1 = (j : Int) by omega]; exact wrap_small _ (by omega) (by omega)
          have hdj : a.add (j * 7) = dd := hdd
          have E0 := Lib.hid a0
          have E1 := Lib.hid d0
          clear hk hk2 hkk hll hd1 hd2
          by_cases y1 : k.kind = 1
          case neg =>
            have y2 : (k.kind == 1) = false := by simpa using y1
            have HR := Lib.hid (show okBs false kids = okBs (prevC kids (j + 1 + 1)) (kids.drop (j + 1 + 1)) by rw [hrel, decide_eq_false y1, Bool.and_false]; rfl)
            clear hrel
            go_wp2_with fail
            refine c2.mono ?_
            rintro e w2 ⟨rfl, b2⟩
            have b3 := hbel.trans (b2.mono (by omega))
            have g4' : w2.cell? ⟨w.heap.size, 4, none⟩ = some (.slice (some a) kids.length ck) := (HN.out.more b3).cell 4
            have a0' := (b2.cell (kblock_lt E0.out)).trans E0.out
            go_wp2
            go_roundw
            case rel => exact ⟨j + 1 + 1, by omega, by go_num, HR.out, b3⟩
            case measure => simp [intOf]; omega
          rw [decide_eq_true y1, Bool.and_true] at hrel
          rw [y1] at c2 E0 a0
          clear y1
          have hj1 : ((j + 1 : Nat) : Int) = (j : Int) + 1 := by omega
          have hwj2 : IntKind.i64.wrap ((j : Int) + 1 - 1) = (j : Int) := by rw [← hj1]; exact hwj
          have hjl : (j : Int) < (kids.length : Int) := by omega
          clear hwj hj1
          by_cases x1 : l.kind = 1
          case neg =>
            have x2 : (l.kind == 1) = false := by simpa using x1
            have HR := Lib.hid (show okBs false kids = okBs (prevC kids (j + 1 + 1)) (kids.drop (j + 1 + 1)) by rw [hrel, decide_eq_false x1]; rfl)
            clear hrel
            go_wp2_with fail
            refine c2.mono ?_
            rintro e w2 ⟨rfl, b2⟩
            have b3 := hbel.trans (b2.mono (by omega))
            have g4' : w2.cell? ⟨w.heap.size, 4, none⟩ = some (.slice (some a) kids.length ck) := (HN.out.more b3).cell 4
            have a0' := (b2.cell (kblock_lt E0.out)).trans E0.out
            have d0' := (b2.cell (kblock_lt E1.out)).trans E1.out
            go_wp2
            go_roundw
            case rel => exact ⟨j + 1 + 1, by omega, by go_num, HR.out, b3⟩
            case measure => simp [intOf]; omega
          · have HT := Lib.hid (show R = false by rw [HD.out, hrel, decide_eq_true x1]; rfl)
            rw [x1] at E1 d0
            clear hrel x1
            go_wp2_with fail
            refine c2.mono ?_
            rintro e w2 ⟨rfl, b2⟩
            have b3 := hbel.trans (b2.mono (by omega))
            have b4 := hbw.trans (b2.mono (by omega))
            have g4' : w2.cell? ⟨w.heap.size, 4, none⟩ = some (.slice (some a) kids.length ck) := (HN.out.more b3).cell 4
            have a0' := (b2.cell (kblock_lt E0.out)).trans E0.out
            have d0' := (b2.cell (kblock_lt E1.out)).trans E1.out
            go_wp2
            go_ret
            exact ⟨trN (by rw [HT.out]), b4⟩
        case neg =>
          obtain rfl : i = kids.length := by omega
          have HT := Lib.hid (show R = true by rw [HD.out, hrel, List.drop_eq_nil_of_le (Nat.le_refl _), okBs])
          have hiz2 : ¬ (kids.length : Int) < (kids.length : Int) := by omega
          clear hrel
          go_wp2
          go_ret
          exact ⟨trN (by rw [HT.out]), hbw⟩
set_option maxRecDepth 100000 in
set_option maxHeartbeats 4000000 in
theorem wref_valid : ∀ f : Nat, OkC f
  | 0 => fun n _ _ hf _ _ => absurd hf (by have := cnt_eq n; omega)
  | f + 1 => fun n v w hf hm hn => by
    by_cases h1 : n.kind = 1
    · have := wref_data n v w h1 hm hn
      rw [ok_eq, if_pos h1]
      exact this
    by_cases h0 : n.kind = 0
    · exact wref_elem f (wref_valid f) n v w h0 hf hm hn
    rw [ok_eq, if_neg h1, if_neg h0]
    obtain ⟨pa, ca, pk, ck, rfl, -, -⟩ := (node_is w n v).1 hn
    have hbe : ∀ o : Obj, Below w.heap.size w (w.alloc o) := fun o => (Below.refl _ _).alloc (Nat.le_refl _) _
    have q1 : (n.kind == 1) = false := by simpa using h1
    have q2 : (n.kind != 0) = true := by simpa using h0
    have q3 : (n.kind == 0) = false := by simpa using h0
    clear hn hf hm
    go_enter Tryz.func14, Tryz.ntmps14
    go_wp2
    go_ret
    exact ⟨rfl, hbe _⟩
set_option maxRecDepth 100000 in
set_option maxHeartbeats 4000000 in
theorem wref_Check (n : NodeD) (v : Value) (w : World) (hm : n.mass ≤ 1000000) (hn : NodeIs w n v) : Calls Tryz.prog 6 #[v] w fun e w' => e = .returned (.int .i64 (errP n)) ∧ Below w.heap.size w w' := by
  have hc := cnt_mass n
  have cD : ∀ wx, NodeIs wx n v → _ := fun wx h => tref_Depth n.cnt n v wx (Nat.le_refl _) (by omega) h
  have cV : ∀ wx, NodeIs wx n v → _ := fun wx h => wref_valid n.cnt n v wx (Nat.le_refl _) hm h
  have hE : errP n = if (decide (n.kind = 0) && (decide (n.depth ≤ 100) && n.okB)) = true then 0 else 22 := rfl
  have hb0 : ∀ o : Obj, NodeIs (w.alloc o) n v := fun o => hn.below ((Below.refl _ _).alloc (Nat.le_refl _) o)
  obtain ⟨pa, ca, pk, ck, rfl, -, -⟩ := (node_is w n v).1 hn
  have HB := Lib.hid (Blk.new w #[.int .i64 n.kind, .string n.sp, .string n.nm, .slice pa n.al.length ca, .slice pk n.kids.length ck, .string n.tx, .int .i64 n.at'] 25)
  have HN0 := Lib.hid (hb0 (.cells #[.int .i64 n.kind, .string n.sp, .string n.nm, .slice pa n.al.length ca, .slice pk n.kids.length ck, .string n.tx, .int .i64 n.at'] 25))
  have hbe : ∀ o : Obj, Below w.heap.size w (w.alloc o) := fun o => (Below.refl _ _).alloc (Nat.le_refl _) _
  have hze : ∀ o : Obj, (w.alloc o).heap.size = w.heap.size + 1 := fun o => by simp
  have hdp : n.depth ≤ 1000000 := by have := depth_cnt n; omega
  clear hb0 hn hc
  by_cases h0 : n.kind = 0
  case neg =>
    rw [hE, decide_eq_false h0]
    have q1 : (n.kind == 0) = false := by simpa using h0
    have q2 : (n.kind != 0) = true := by simpa using h0
    clear h0 hE cD cV
    go_enter Tryz.func6, Tryz.ntmps6
    go_wp2
    go_ret
    exact ⟨rfl, hbe _⟩
  rw [decide_eq_true h0] at hE
  rw [h0] at HB HN0 cD cV ⊢
  clear h0
  rw [hE]
  have hdz : (n.depth : Int) ≤ 1000000 := by omega
  by_cases h1 : n.depth ≤ 100
  case neg =>
    rw [decide_eq_false h1]
    have q1 : (100 : Int) < (n.depth : Int) := by omega
    clear hE cV
    go_enter Tryz.func6, Tryz.ntmps6
    go_wp2_with fail
    refine (cD _ HN0.out).mono ?_
    rintro e w1 ⟨rfl, b1⟩
    have b2 := (hbe _).trans (b1.mono (by rw [hze]; omega))
    go_wp2
    go_ret
    exact ⟨rfl, b2⟩
  rw [decide_eq_true h1]
  have q1 : ¬ (100 : Int) < (n.depth : Int) := by omega
  generalize n.okB = V at *
  clear hE
  cases V
  all_goals
    go_enter Tryz.func6, Tryz.ntmps6
    go_wp2_with fail
    refine (cD _ HN0.out).mono ?_
    rintro e w1 ⟨rfl, b1⟩
    have HP := Lib.hid (HB.out.more b1)
    have f0 : w1.cell? ⟨w.heap.size, 0, none⟩ = some (.int .i64 0) := HP.out.cell 0
    have f1 : w1.cell? ⟨w.heap.size, 1, none⟩ = some (.string n.sp) := HP.out.cell 1
    have f2 : w1.cell? ⟨w.heap.size, 2, none⟩ = some (.string n.nm) := HP.out.cell 2
    have f3 : w1.cell? ⟨w.heap.size, 3, none⟩ = some (.slice pa n.al.length ca) := HP.out.cell 3
    have f4 : w1.cell? ⟨w.heap.size, 4, none⟩ = some (.slice pk n.kids.length ck) := HP.out.cell 4
    have f5 : w1.cell? ⟨w.heap.size, 5, none⟩ = some (.string n.tx) := HP.out.cell 5
    have f6 : w1.cell? ⟨w.heap.size, 6, none⟩ = some (.int .i64 n.at') := HP.out.cell 6
    have HN1 := HN0.out.below b1
    have b2 := (hbe _).trans (b1.mono (by rw [hze]; omega))
    clear b1
    go_wp2_with fail
    refine (cV _ HN1).mono ?_
    rintro e w3 ⟨rfl, b3⟩
    have b4 := b2.trans (b3.mono b2.size)
    go_wp2
    go_ret
    exact ⟨rfl, b4⟩
end Go.Proofs.YtppmoeidgefkpaaGreatDoor
end
section
namespace Go.Proofs.YtppmoeidgefkpaaGreatDoor
open Go.RowKit
theorem err_cases (n : NodeD) : (n.goodB = true ∧ errP n = 0 ∧ writeP n = ofBytes (docP n)) ∨ (n.goodB = false ∧ errP n = 22 ∧ writeP n = ⟨#[]⟩) := by
  unfold errP writeP
  cases n.goodB
  · exact .inr ⟨rfl, rfl, rfl⟩
  · exact .inl ⟨rfl, rfl, rfl⟩
end Go.Proofs.YtppmoeidgefkpaaGreatDoor
end
