/- Packed from the texts NsB. -/
import Derived.Test.YtoehcholbcchcaaDoorUNsE
import Derived.Test.YtoehcholbcchcaaDoorUShelf
import Derived.Test.YtoehcholbcchcaaDoorUTextF
import Derived.Test.YtoehcholbcchcaaDoorUTextV
section
namespace Go.Proofs.YtoehcholbcchcaaDoor
open Go.RowKit
def NsT (w : World) : Prop := HasTabs w ∧ ∃ m, w.cell? ⟨0, 0, none⟩ = some (.int .i64 m)
theorem NsT_below {w w' : World} (h : NsT w) (hb : Below w.heap.size w w') : NsT w' := by
  obtain ⟨h1, m, hm⟩ := h
  exact ⟨HasTabs_below h1 hb, m, (hb.cell (kblock_lt hm)).trans hm⟩
def NsK (B : Nat) (w : World) : Prop := ∃ w0, NsT w0 ∧ w0.heap.size ≤ B ∧ Below w0.heap.size w0 w
theorem NsK.tabs {B : Nat} {w : World} (h : NsK B w) : NsT w := by
  obtain ⟨w0, h1, _, h3⟩ := h
  exact NsT_below h1 h3
theorem NsK.part {B : Nat} {X : Nat → Prop} {w w' : World} (h : NsK B w) (k : Part X w w') (hx : ∀ i, X i → B ≤ i) : NsK B w' := by
  obtain ⟨w0, h1, h2, h3⟩ := h
  exact ⟨w0, h1, h2, k.below h3 (fun i x => by have := hx i x; omega) h3.size⟩
theorem NsK.more {B : Nat} {w w' : World} (h : NsK B w) (b : Below w.heap.size w w') : NsK B w' := by
  obtain ⟨w0, h1, h2, h3⟩ := h
  exact ⟨w0, h1, h2, h3.trans (b.mono h3.size)⟩
theorem below_drewN {w : World} (n : Nat) : Below w.heap.size w (w.drewN n) := ⟨rfl, rfl, rfl, Nat.le_refl _, fun _ _ => rfl⟩
theorem ns_cut (s : ByteArray) (w : World) (hs : s.size ≤ 1000000) (hT : NsT w) : Calls Tryd.prog 22 #[.string s, .string colB] w fun e w' => e = .returned (.tuple #[.string ⟨(Lib.cut s.data.toList colB.data.toList).1.toArray⟩, .string ⟨(Lib.cut s.data.toList colB.data.toList).2.1.toArray⟩, .bool (Lib.cut s.data.toList colB.data.toList).2.2]) ∧ Below w.heap.size w w' := by
  obtain ⟨_, m, hm⟩ := hT
  refine (Tryd.strings_Cut s colB m w (by omega) hm).mono ?_
  exact fun e w' ⟨h1, h2⟩ => ⟨h1, by first | exact h2 | (obtain ⟨n, rfl⟩ := h2; exact below_drewN n)⟩
set_option maxRecDepth 100000 in
set_option maxHeartbeats 4000000 in
theorem ns_Split (s : ByteArray) (w : World) (hs : s.size ≤ 1000000) (hT : NsT w) : Calls Tryd.prog 10 #[.string s] w fun e w' => e = .returned (.tuple #[.string (splitP s).1, .string (splitP s).2.1, .bool (splitP s).2.2]) ∧ Below w.heap.size w w' := by
  have cC := ns_cut s w hs hT
  rcases Lib.indexB_cases s colB with hix | ⟨i, hix, hroom⟩
  · obtain ⟨e1, e2, e3⟩ := Lib.cutB_miss s colB hix
    rw [e1, e2, e3] at cC
    have hsp := split_miss s hix
    have c2 : ∀ wx, HasTabs wx → _ := fun wx h => text_IsName s wx (by unfold maxLen; omega) h
    clear e1 e2 e3 hix
    rcases hb : isNameB s with _ | _
    · rw [hb, if_neg (by simp)] at hsp
      rw [hb] at c2
      rw [hsp]
      clear hb hsp
      unfold colB at cC
      go_enter Tryd.func10, Tryd.ntmps10
      go_wp2_with fail
      refine cC.mono ?_
      rintro e w1 ⟨rfl, b1⟩
      have t1 := HasTabs_below hT.1 b1
      go_wp2_with fail
      refine (c2 _ t1).mono ?_
      rintro e w2 ⟨rfl, b2⟩
      go_wp2
      exact bodyPost_ret (v := .tuple #[.string ⟨#[]⟩, .string ⟨#[]⟩, .bool false]) (by simp [results, Tryd.results10, go_sem]) rfl ⟨rfl, b1.trans (b2.mono b1.size)⟩
    · rw [hb, if_pos rfl] at hsp
      rw [hb] at c2
      rw [hsp]
      clear hb hsp
      unfold colB at cC
      go_enter Tryd.func10, Tryd.ntmps10
      go_wp2_with fail
      refine cC.mono ?_
      rintro e w1 ⟨rfl, b1⟩
      have t1 := HasTabs_below hT.1 b1
      go_wp2_with fail
      refine (c2 _ t1).mono ?_
      rintro e w2 ⟨rfl, b2⟩
      go_wp2
      exact bodyPost_ret (v := .tuple #[.string ⟨#[]⟩, .string s, .bool true]) (by simp [results, Tryd.results10, go_sem]) rfl ⟨rfl, b1.trans (b2.mono b1.size)⟩
  · obtain ⟨e1, e2, e3⟩ := Lib.cutB_hit s colB i hix
    rw [e1, e2, e3] at cC
    have hsp := split_hit s i hix
    rw [show colB.size = 1 from rfl] at cC
    have z1 : (s.extract 0 i).size ≤ 1000000 := by simp only [ByteArray.size_extract]; omega
    have z2 : (s.extract (i + 1) s.size).size ≤ 1000000 := by simp only [ByteArray.size_extract]; omega
    obtain ⟨p, hp⟩ : ∃ p, s.extract 0 i = p := ⟨_, rfl⟩
    obtain ⟨l, hl⟩ : ∃ l, s.extract (i + 1) s.size = l := ⟨_, rfl⟩
    rw [hp] at hsp cC z1
    rw [hl] at hsp cC z2
    have c2 : ∀ wx, HasTabs wx → _ := fun wx h => text_IsName p wx (by unfold maxLen; omega) h
    have c3 : ∀ wx, HasTabs wx → _ := fun wx h => text_IsName l wx (by unfold maxLen; omega) h
    clear e1 e2 e3 hix hp hl hroom z1 z2
    unfold colB at cC
    rcases hb : isNameB p with _ | _
    · rw [hb, Bool.false_and, if_neg (by simp)] at hsp
      rw [hb] at c2
      rw [hsp]
      clear hb hsp
      go_enter Tryd.func10, Tryd.ntmps10
      go_wp2_with fail
      refine cC.mono ?_
      rintro e w1 ⟨rfl, b1⟩
      have t1 := HasTabs_below hT.1 b1
      go_wp2_with fail
      refine (c2 _ t1).mono ?_
      rintro e w2 ⟨rfl, b2⟩
      go_wp2
      exact bodyPost_ret (v := .tuple #[.string ⟨#[]⟩, .string ⟨#[]⟩, .bool false]) (by simp [results, Tryd.results10, go_sem]) rfl ⟨rfl, b1.trans (b2.mono b1.size)⟩
    · rcases hb3 : isNameB l with _ | _
      · rw [hb, hb3, Bool.and_false, if_neg (by simp)] at hsp
        rw [hb] at c2
        rw [hb3] at c3
        rw [hsp]
        clear hb hb3 hsp
        go_enter Tryd.func10, Tryd.ntmps10
        go_wp2_with fail
        refine cC.mono ?_
        rintro e w1 ⟨rfl, b1⟩
        have t1 := HasTabs_below hT.1 b1
        go_wp2_with fail
        refine (c2 _ t1).mono ?_
        rintro e w2 ⟨rfl, b2⟩
        have t2 := HasTabs_below t1 b2
        go_wp2_with fail
        refine (c3 _ t2).mono ?_
        rintro e w3 ⟨rfl, b3⟩
        go_wp2
        exact bodyPost_ret (v := .tuple #[.string ⟨#[]⟩, .string ⟨#[]⟩, .bool false]) (by simp [results, Tryd.results10, go_sem]) rfl ⟨rfl, (b1.trans (b2.mono b1.size)).trans (b3.mono (by have := b1.size; have := b2.size; omega))⟩
      · rw [hb, hb3, Bool.and_true, if_pos rfl] at hsp
        rw [hb] at c2
        rw [hb3] at c3
        rw [hsp]
        clear hb hb3 hsp
        go_enter Tryd.func10, Tryd.ntmps10
        go_wp2_with fail
        refine cC.mono ?_
        rintro e w1 ⟨rfl, b1⟩
        have t1 := HasTabs_below hT.1 b1
        go_wp2_with fail
        refine (c2 _ t1).mono ?_
        rintro e w2 ⟨rfl, b2⟩
        have t2 := HasTabs_below t1 b2
        go_wp2_with fail
        refine (c3 _ t2).mono ?_
        rintro e w3 ⟨rfl, b3⟩
        go_wp2
        exact bodyPost_ret (v := .tuple #[.string p, .string l, .bool true]) (by simp [results, Tryd.results10, go_sem]) rfl ⟨rfl, (b1.trans (b2.mono b1.size)).trans (b3.mono (by have := b1.size; have := b2.size; omega))⟩
theorem blist (a : ByteArray) : a.toList = a.data.toList := by rw [ByteArray.toList_eq]
theorem cne {a b : ByteArray} (h : ¬ a = b) {c : List UInt8} (hc : b.data.toList = c) : (a.toList == c) = false := by
  have := str_ne2 h
  rw [← hc, ← blist]
  exact this
set_option maxRecDepth 100000 in
set_option maxHeartbeats 4000000 in
theorem ns_declaration (sp nm va : ByteArray) (a : Int) (w : World) (hs : nm.size ≤ 1000000) (hT : NsT w) : Calls Tryd.prog 70 #[.agg #[.string sp, .string nm, .string va, .int .i64 a]] w fun e w' => e = .returned (.tuple #[.string ((declP nm).getD noB), .bool (declP nm).isSome]) ∧ Below w.heap.size w w' := by
  have c1 : ∀ wx, NsT wx → _ := fun wx h => ns_Split nm wx hs h
  have hd : declP nm = if (splitP nm).1 = xmlnsB then some (splitP nm).2.1 else if (splitP nm).1 = noB ∧ (splitP nm).2.1 = xmlnsB then some noB else none := rfl
  have bA : Below w.heap.size w (w.alloc (.cells #[.string sp, .string nm, .string va, .int .i64 a] 43)) := (Below.refl _ _).alloc (Nat.le_refl _) _
  have t1 := NsT_below hT bA
  obtain ⟨p, hp⟩ : ∃ p, (splitP nm).1 = p := ⟨_, rfl⟩
  obtain ⟨l, hl⟩ : ∃ l, (splitP nm).2.1 = l := ⟨_, rfl⟩
  obtain ⟨ok, hok⟩ : ∃ ok, (splitP nm).2.2 = ok := ⟨_, rfl⟩
  rw [hp, hl] at hd
  rw [hp, hl, hok] at c1
  clear hp hl hok
  by_cases h1 : p = xmlnsB
  · rw [if_pos h1] at hd
    rw [hd]
    subst h1
    unfold xmlnsB at c1
    clear hd
    go_enter Tryd.func70, Tryd.ntmps70
    go_wp2_with fail
    refine (c1 _ t1).mono ?_
    rintro e w1 ⟨rfl, b1⟩
    go_wp2
    exact bodyPost_ret (v := .tuple #[.string l, .bool true]) (by simp [results, Tryd.results70, go_sem]) rfl ⟨rfl, bA.trans (b1.mono bA.size)⟩
  · rw [if_neg h1] at hd
    have hb1 : (p.toList == [120, 109, 108, 110, 115]) = false := cne h1 rfl
    by_cases h2 : p = noB
    · subst h2
      by_cases h3 : l = xmlnsB
      · rw [if_pos ⟨rfl, h3⟩] at hd
        rw [hd]
        subst h3
        unfold xmlnsB noB at c1
        clear hd h1 hb1
        go_enter Tryd.func70, Tryd.ntmps70
        go_wp2_with fail
        refine (c1 _ t1).mono ?_
        rintro e w1 ⟨rfl, b1⟩
        go_wp2
        exact bodyPost_ret (v := .tuple #[.string ⟨#[]⟩, .bool true]) (by simp [results, Tryd.results70, go_sem]) rfl ⟨rfl, bA.trans (b1.mono bA.size)⟩
      · rw [if_neg (fun h => h3 h.2)] at hd
        rw [hd]
        have hb3 : (l.toList == [120, 109, 108, 110, 115]) = false := cne h3 rfl
        unfold noB at c1
        clear hd h1 hb1
        go_enter Tryd.func70, Tryd.ntmps70
        go_wp2_with fail
        refine (c1 _ t1).mono ?_
        rintro e w1 ⟨rfl, b1⟩
        go_wp2
        exact bodyPost_ret (v := .tuple #[.string ⟨#[]⟩, .bool false]) (by simp [results, Tryd.results70, go_sem]) rfl ⟨rfl, bA.trans (b1.mono bA.size)⟩
    · rw [if_neg (fun h => h2 h.1)] at hd
      rw [hd]
      have hb2 : (p.toList == []) = false := cne h2 rfl
      clear hd h1 h2
      go_enter Tryd.func70, Tryd.ntmps70
      go_wp2_with fail
      refine (c1 _ t1).mono ?_
      rintro e w1 ⟨rfl, b1⟩
      go_wp2
      exact bodyPost_ret (v := .tuple #[.string ⟨#[]⟩, .bool false]) (by simp [results, Tryd.results70, go_sem]) rfl ⟨rfl, bA.trans (b1.mono bA.size)⟩
end Go.Proofs.YtoehcholbcchcaaDoor
end
