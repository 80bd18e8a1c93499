/- The reference of layer 3: offset and Parse: what each returns. -/
import Derived.Test.YtmcokldninhgdaaDoorDatI
namespace Go.Proofs.YtmcokldninhgdaaDoor
open Go.RowKit

theorem retP {j k : IntKind} {p : Int × Int} {a b : Int} (h : p = (a, b)) : Ending.returned (.tuple #[.int j a, .int k b]) = .returned (.tuple #[.int j p.1, .int k p.2]) := by rw [h]
theorem numL_one (l : List Int) (i : Nat) : numL l i 1 = if dgB (ch l i) then ch l i - 48 else -1 := by
  by_cases h : i < l.length
  · unfold numL; rw [drop_ch l i h, numGo]
    split
    · rw [numGo]; omega
    · rfl
  · rw [numL_short l i 1 (by omega) (by omega)]
    have : ch l i = -1 := by unfold ch; rw [List.getD_eq_getElem?_getD, List.getElem?_eq_none (by omega)]; rfl
    rw [this]; rfl
theorem digs_at (l : List Int) (i : Nat) : digs (l.drop i) = if dgB (ch l i) then digs (l.drop (i + 1)) + 1 else 0 := by
  by_cases h : i < l.length
  · rw [drop_ch l i h, digs]
  · have : ch l i = -1 := by unfold ch; rw [List.getD_eq_getElem?_getD, List.getElem?_eq_none (by omega)]; rfl
    rw [this, List.drop_eq_nil_of_le (by omega)]; rfl
theorem isL_in (l : List Int) (i : Nat) (a b : Int) (ha : 0 ≤ a) (hb : 0 ≤ b) (h : isL l i a b = true) : i < l.length := by
  rcases Nat.lt_or_ge i l.length with h1 | h1
  · exact h1
  · have : ch l i = -1 := by unfold ch; rw [List.getD_eq_getElem?_getD, List.getElem?_eq_none h1]; rfl
    unfold isL at h; rw [this] at h
    simp at h; omega
theorem offV_bd (l : List Int) (i : Nat) : -86340 ≤ (offV l i).1 ∧ (offV l i).1 ≤ 86340 := by
  unfold offV
  split
  · simp
  · split
    · rename_i h
      simp only [Bool.and_eq_true, decide_eq_true_eq] at h
      simp only
      split <;> omega
    · simp

set_option maxHeartbeats 2000000 in
theorem dref_offset (s : ByteArray) (i : Int) (w : World) (h0 : 0 ≤ i) (hi : i ≤ 140737488351300) (hs : s.size ≤ 140737488351232) :
    Calls Tryd.prog 25 #[.string s, .int .i64 i] w fun e w' => e = .returned (.tuple #[.int .i64 (offV (zs s) i.toNat).1, .bool (offV (zs s) i.toNat).2]) ∧ w = w' := by
  have c1 : ∀ wx, _ := fun wx => dref_is s i 90 122 wx h0 (by omega) (by omega) hs
  have c2 : ∀ wx, _ := fun wx => dref_Number s (i + 1) 2 wx (by omega) (by omega) (by omega) hs (by omega)
  have c3 : ∀ wx, _ := fun wx => dref_Number s (i + 4) 2 wx (by omega) (by omega) (by omega) hs (by omega)
  have c4 : ∀ wx, _ := fun wx => dref_is s i 43 45 wx h0 (by omega) (by omega) hs
  have c5 : ∀ wx, _ := fun wx => dref_is s (i + 3) 58 58 wx (by omega) (by omega) (by omega) hs
  have b2 := numL_bd (zs s) (i.toNat + 1) 2
  have b3 := numL_bd (zs s) (i.toNat + 4) 2
  simp only [show (10 : Int) ^ 2 = 100 from rfl] at b2 b3
  rw [show (i + 1).toNat = i.toNat + 1 by omega, show (2 : Int).toNat = 2 from rfl] at c2
  rw [show (i + 4).toNat = i.toNat + 4 by omega, show (2 : Int).toNat = 2 from rfl] at c3
  rw [show (i + 3).toNat = i.toNat + 3 by omega] at c5
  have hzl := zs_length s
  rcases e1 : isL (zs s) i.toNat 90 122 with _ | _
  · rw [e1] at c1
    have hof : offV (zs s) i.toNat = if isL (zs s) i.toNat 43 45 && decide (0 ≤ numL (zs s) (i.toNat + 1) 2 ∧ numL (zs s) (i.toNat + 1) 2 ≤ 23) && isL (zs s) (i.toNat + 3) 58 58 && decide (0 ≤ numL (zs s) (i.toNat + 4) 2 ∧ numL (zs s) (i.toNat + 4) 2 ≤ 59) && (zs s).length == i.toNat + 6 then
      (if ch (zs s) i.toNat == 45 then -(numL (zs s) (i.toNat + 1) 2 * 3600 + numL (zs s) (i.toNat + 4) 2 * 60) else numL (zs s) (i.toNat + 1) 2 * 3600 + numL (zs s) (i.toNat + 4) 2 * 60, true)
      else (0, false) := by unfold offV; rw [e1]; rfl
    have hin := isL_in (zs s) i.toNat 43 45 (by omega) (by omega)
    rw [hof]
    clear hof e1
    rw [hzl] at hin ⊢
    generalize numL (zs s) (i.toNat + 1) 2 = h at *
    generalize numL (zs s) (i.toNat + 4) 2 = m at *
    generalize isL (zs s) (i.toNat + 3) 58 58 = b5 at *
    generalize isL (zs s) i.toNat 43 45 = b4 at *
    have stop : ∀ c : Bool, c = false → (if c then (if ch (zs s) i.toNat == 45 then -(h * 3600 + m * 60) else h * 3600 + m * 60, true) else (0, false)) = ((0, false) : Int × Bool) := fun c hc => by rw [hc]; rfl
    have pass : ∀ c : Bool, c = true → (if c then (if ch (zs s) i.toNat == 45 then -(h * 3600 + m * 60) else h * 3600 + m * 60, true) else (0, false)) = ((if ch (zs s) i.toNat == 45 then -(h * 3600 + m * 60) else h * 3600 + m * 60, true) : Int × Bool) := fun c hc => by rw [hc]; rfl
    by_cases hok : b4 = true ∧ (0 ≤ h ∧ h ≤ 23) ∧ b5 = true ∧ (0 ≤ m ∧ m ≤ 59) ∧ s.size = i.toNat + 6
    · obtain ⟨rfl, ⟨h1, h2⟩, rfl, ⟨m1, m2⟩, hz⟩ := hok
      rw [pass _ (by simp; omega)]
      clear stop pass
      have hn : i.toNat < s.size := hin rfl
      have hch := ch_at s i.toNat hn
      have hlt : i < (s.size : Int) := by omega
      have hzz : (s.size : Int) = i + 6 := by omega
      obtain ⟨x, hx⟩ : ∃ x, s[i.toNat]'hn = x := ⟨_, rfl⟩
      rw [hx] at hch
      rw [hch]
      have HZ := Lib.hid hz
      clear hch hin hzl hz
      generalize hxc : (x.toNat : Int) = c at *
      by_cases hc : c = 45
      · rw [if_pos (by simp [hc])]
        go_enter Tryd.func25, Tryd.ntmps25
        go_wp2_with fail
        refine (c1 _).mono ?_
        rintro e w' ⟨rfl, rfl⟩
        go_wp2_with fail
        refine (c2 _).mono ?_
        rintro e w' ⟨rfl, rfl⟩
        go_wp2_with fail
        refine (c3 _).mono ?_
        rintro e w' ⟨rfl, rfl⟩
        go_wp2_with fail
        refine (c4 _).mono ?_
        rintro e w' ⟨rfl, rfl⟩
        go_wp2_with fail
        refine (c5 _).mono ?_
        rintro e w' ⟨rfl, rfl⟩
        go_wp2
        go_ret2
        exact ⟨rfl, rfl⟩
      · rw [if_neg (by simp [hc])]
        go_enter Tryd.func25, Tryd.ntmps25
        go_wp2_with fail
        refine (c1 _).mono ?_
        rintro e w' ⟨rfl, rfl⟩
        go_wp2_with fail
        refine (c2 _).mono ?_
        rintro e w' ⟨rfl, rfl⟩
        go_wp2_with fail
        refine (c3 _).mono ?_
        rintro e w' ⟨rfl, rfl⟩
        go_wp2_with fail
        refine (c4 _).mono ?_
        rintro e w' ⟨rfl, rfl⟩
        go_wp2_with fail
        refine (c5 _).mono ?_
        rintro e w' ⟨rfl, rfl⟩
        go_wp2
        go_ret2
        exact ⟨rfl, rfl⟩
    · rw [stop _ (by
        rw [← Bool.not_eq_true]
        intro hb
        simp only [Bool.and_eq_true, decide_eq_true_eq, beq_iff_eq] at hb
        exact hok ⟨hb.1.1.1.1, hb.1.1.1.2, hb.1.1.2, hb.1.2, hb.2⟩)]
      clear stop pass
      have hzz : (s.size : Int) = i + 6 ↔ s.size = i.toNat + 6 := by omega
      rw [← hzz] at hok
      clear hzz hzl hin
      rcases b4 with _ | _
      · clear hok
        go_enter Tryd.func25, Tryd.ntmps25
        go_wp2_with fail
        refine (c1 _).mono ?_
        rintro e w' ⟨rfl, rfl⟩
        go_wp2_with fail
        refine (c2 _).mono ?_
        rintro e w' ⟨rfl, rfl⟩
        go_wp2_with fail
        refine (c3 _).mono ?_
        rintro e w' ⟨rfl, rfl⟩
        go_wp2_with fail
        refine (c4 _).mono ?_
        rintro e w' ⟨rfl, rfl⟩
        go_wp2
        go_ret2
        exact ⟨rfl, rfl⟩
      · by_cases hh : 0 ≤ h ∧ h ≤ 23
        · obtain ⟨h1, h2⟩ := hh
          rcases b5 with _ | _
          · clear hok
            go_enter Tryd.func25, Tryd.ntmps25
            go_wp2_with fail
            refine (c1 _).mono ?_
            rintro e w' ⟨rfl, rfl⟩
            go_wp2_with fail
            refine (c2 _).mono ?_
            rintro e w' ⟨rfl, rfl⟩
            go_wp2_with fail
            refine (c3 _).mono ?_
            rintro e w' ⟨rfl, rfl⟩
            go_wp2_with fail
            refine (c4 _).mono ?_
            rintro e w' ⟨rfl, rfl⟩
            go_wp2_with fail
            refine (c5 _).mono ?_
            rintro e w' ⟨rfl, rfl⟩
            go_wp2
            go_ret2
            exact ⟨rfl, rfl⟩
          · by_cases hm : 0 ≤ m ∧ m ≤ 59
            · obtain ⟨m1, m2⟩ := hm
              have hne : ¬ (s.size : Int) = i + 6 := fun e => hok ⟨rfl, ⟨h1, h2⟩, rfl, ⟨m1, m2⟩, e⟩
              have hnb : ((s.size : Int) != i + 6) = true := by simp [hne]
              clear hok
              go_enter Tryd.func25, Tryd.ntmps25
              go_wp2_with fail
              refine (c1 _).mono ?_
              rintro e w' ⟨rfl, rfl⟩
              go_wp2_with fail
              refine (c2 _).mono ?_
              rintro e w' ⟨rfl, rfl⟩
              go_wp2_with fail
              refine (c3 _).mono ?_
              rintro e w' ⟨rfl, rfl⟩
              go_wp2_with fail
              refine (c4 _).mono ?_
              rintro e w' ⟨rfl, rfl⟩
              go_wp2_with fail
              refine (c5 _).mono ?_
              rintro e w' ⟨rfl, rfl⟩
              go_wp2
              all_goals go_ret2
              all_goals exact ⟨rfl, rfl⟩
            · clear hok
              rcases (by omega : m < 0 ∨ (0 ≤ m ∧ 59 < m)) with g | ⟨g1, g2⟩
              all_goals
                clear hm
                go_enter Tryd.func25, Tryd.ntmps25
                go_wp2_with fail
                refine (c1 _).mono ?_
                rintro e w' ⟨rfl, rfl⟩
                go_wp2_with fail
                refine (c2 _).mono ?_
                rintro e w' ⟨rfl, rfl⟩
                go_wp2_with fail
                refine (c3 _).mono ?_
                rintro e w' ⟨rfl, rfl⟩
                go_wp2_with fail
                refine (c4 _).mono ?_
                rintro e w' ⟨rfl, rfl⟩
                go_wp2_with fail
                refine (c5 _).mono ?_
                rintro e w' ⟨rfl, rfl⟩
                go_wp2
                all_goals go_ret2
                all_goals exact ⟨rfl, rfl⟩
        · clear hok
          rcases (by omega : h < 0 ∨ (0 ≤ h ∧ 23 < h)) with g | ⟨g1, g2⟩
          all_goals
            clear hh
            go_enter Tryd.func25, Tryd.ntmps25
            go_wp2_with fail
            refine (c1 _).mono ?_
            rintro e w' ⟨rfl, rfl⟩
            go_wp2_with fail
            refine (c2 _).mono ?_
            rintro e w' ⟨rfl, rfl⟩
            go_wp2_with fail
            refine (c3 _).mono ?_
            rintro e w' ⟨rfl, rfl⟩
            go_wp2_with fail
            refine (c4 _).mono ?_
            rintro e w' ⟨rfl, rfl⟩
            go_wp2
            all_goals go_ret2
            all_goals exact ⟨rfl, rfl⟩
  · rw [e1] at c1
    have hof : offV (zs s) i.toNat = (0, s.size == i.toNat + 1) := by unfold offV; rw [e1, hzl]; rfl
    rw [hof]
    clear hof e1 c2 c3 c4 c5 b2 b3 hzl
    have hbb : (s.size == i.toNat + 1) = decide ((s.size : Int) = i + 1) := by rw [Bool.eq_iff_iff]; simp; omega
    rw [hbb]
    clear hbb
    go_enter Tryd.func25, Tryd.ntmps25
    go_wp2_with fail
    refine (c1 _).mono ?_
    rintro e w' ⟨rfl, rfl⟩
    go_wp2
    go_ret2
    exact ⟨rfl, rfl⟩

theorem fracV_at (l : List Int) : 19 ≤ (fracV l).1 ∧ (fracV l).1 ≤ 20 + l.length := by
  have := digs_le (l.drop 20)
  simp only [List.length_drop] at this
  unfold fracV; split <;> simp <;> omega
theorem secV_or (y m d h mi s : Int) : secV y m d h mi s = ((secV y m d h mi s).1, 0) ∨ secV y m d h mi s = (0, 3) := by
  unfold secV; split <;> simp

set_option maxHeartbeats 4000000 in
theorem dref_Parse (s : ByteArray) (w : World) (hs : s.size ≤ 140737488351232) :
    Calls Tryd.prog 13 #[.string s] w fun e w' => e = .returned (.tuple #[.int .i64 (parseL (zs s)).1, .int .i64 (parseL (zs s)).2]) ∧ w = w' := by
  have c1 : ∀ wx, _ := fun wx => dref_is s 4 45 45 wx (by omega) (by omega) (by omega) hs
  have c2 : ∀ wx, _ := fun wx => dref_is s 7 45 45 wx (by omega) (by omega) (by omega) hs
  have c3 : ∀ wx, _ := fun wx => dref_is s 10 84 116 wx (by omega) (by omega) (by omega) hs
  have c4 : ∀ wx, _ := fun wx => dref_is s 13 58 58 wx (by omega) (by omega) (by omega) hs
  have c5 : ∀ wx, _ := fun wx => dref_is s 16 58 58 wx (by omega) (by omega) (by omega) hs
  rw [show (4 : Int).toNat = 4 from rfl] at c1
  rw [show (7 : Int).toNat = 7 from rfl] at c2
  rw [show (10 : Int).toNat = 10 from rfl] at c3
  rw [show (13 : Int).toNat = 13 from rfl] at c4
  rw [show (16 : Int).toNat = 16 from rfl] at c5
  rcases hsep : sepsB (zs s) with _ | _
  · have hp : parseL (zs s) = (0, 20) := by unfold parseL; rw [hsep]; rfl
    rw [hp]
    clear hp
    unfold sepsB at hsep
    generalize isL (zs s) 4 45 45 = b1 at *
    generalize isL (zs s) 7 45 45 = b2 at *
    generalize isL (zs s) 10 84 116 = b3 at *
    generalize isL (zs s) 13 58 58 = b4 at *
    generalize isL (zs s) 16 58 58 = b5 at *
    rcases b1 with _ | _
    · clear hsep
      go_enter Tryd.func13, Tryd.ntmps13
      (go_wp2_with fail); (refine (c1 _).mono ?_); (rintro e w' ⟨rfl, rfl⟩)
      go_wp2
      go_ret2
      exact ⟨rfl, rfl⟩
    rcases b2 with _ | _
    · clear hsep
      go_enter Tryd.func13, Tryd.ntmps13
      (go_wp2_with fail); (refine (c1 _).mono ?_); (rintro e w' ⟨rfl, rfl⟩)
      (go_wp2_with fail); (refine (c2 _).mono ?_); (rintro e w' ⟨rfl, rfl⟩)
      go_wp2
      go_ret2
      exact ⟨rfl, rfl⟩
    rcases b3 with _ | _
    · clear hsep
      go_enter Tryd.func13, Tryd.ntmps13
      (go_wp2_with fail); (refine (c1 _).mono ?_); (rintro e w' ⟨rfl, rfl⟩)
      (go_wp2_with fail); (refine (c2 _).mono ?_); (rintro e w' ⟨rfl, rfl⟩)
      (go_wp2_with fail); (refine (c3 _).mono ?_); (rintro e w' ⟨rfl, rfl⟩)
      go_wp2
      go_ret2
      exact ⟨rfl, rfl⟩
    rcases b4 with _ | _
    · clear hsep
      go_enter Tryd.func13, Tryd.ntmps13
      (go_wp2_with fail); (refine (c1 _).mono ?_); (rintro e w' ⟨rfl, rfl⟩)
      (go_wp2_with fail); (refine (c2 _).mono ?_); (rintro e w' ⟨rfl, rfl⟩)
      (go_wp2_with fail); (refine (c3 _).mono ?_); (rintro e w' ⟨rfl, rfl⟩)
      (go_wp2_with fail); (refine (c4 _).mono ?_); (rintro e w' ⟨rfl, rfl⟩)
      go_wp2
      go_ret2
      exact ⟨rfl, rfl⟩
    rcases b5 with _ | _
    · clear hsep
      go_enter Tryd.func13, Tryd.ntmps13
      (go_wp2_with fail); (refine (c1 _).mono ?_); (rintro e w' ⟨rfl, rfl⟩)
      (go_wp2_with fail); (refine (c2 _).mono ?_); (rintro e w' ⟨rfl, rfl⟩)
      (go_wp2_with fail); (refine (c3 _).mono ?_); (rintro e w' ⟨rfl, rfl⟩)
      (go_wp2_with fail); (refine (c4 _).mono ?_); (rintro e w' ⟨rfl, rfl⟩)
      (go_wp2_with fail); (refine (c5 _).mono ?_); (rintro e w' ⟨rfl, rfl⟩)
      go_wp2
      go_ret2
      exact ⟨rfl, rfl⟩
    cases hsep
  · have hb := hsep
    unfold sepsB at hb
    simp only [Bool.and_eq_true] at hb
    rw [hb.1.1.1.1] at c1
    rw [hb.1.1.1.2] at c2
    rw [hb.1.1.2] at c3
    rw [hb.1.2] at c4
    rw [hb.2] at c5
    clear hb
    have k1 : ∀ wx, _ := fun wx => dref_Number s 0 4 wx (by omega) (by omega) (by omega) hs (by omega)
    have k2 : ∀ wx, _ := fun wx => dref_Number s 5 2 wx (by omega) (by omega) (by omega) hs (by omega)
    have k3 : ∀ wx, _ := fun wx => dref_Number s 8 2 wx (by omega) (by omega) (by omega) hs (by omega)
    have k4 : ∀ wx, _ := fun wx => dref_Number s 11 2 wx (by omega) (by omega) (by omega) hs (by omega)
    have k5 : ∀ wx, _ := fun wx => dref_Number s 14 2 wx (by omega) (by omega) (by omega) hs (by omega)
    have k6 : ∀ wx, _ := fun wx => dref_Number s 17 2 wx (by omega) (by omega) (by omega) hs (by omega)
    rw [show (0 : Int).toNat = 0 from rfl, show (4 : Int).toNat = 4 from rfl] at k1
    rw [show (5 : Int).toNat = 5 from rfl, show (2 : Int).toNat = 2 from rfl] at k2
    rw [show (8 : Int).toNat = 8 from rfl, show (2 : Int).toNat = 2 from rfl] at k3
    rw [show (11 : Int).toNat = 11 from rfl, show (2 : Int).toNat = 2 from rfl] at k4
    rw [show (14 : Int).toNat = 14 from rfl, show (2 : Int).toNat = 2 from rfl] at k5
    rw [show (17 : Int).toNat = 17 from rfl, show (2 : Int).toNat = 2 from rfl] at k6
    have k7 : ∀ wx, _ := fun wx => cref_Seconds (numL (zs s) 0 4) (numL (zs s) 5 2) (numL (zs s) 8 2) (numL (zs s) 11 2) (numL (zs s) 14 2) (numL (zs s) 17 2) wx
    have hsec : secL (zs s) = secV (numL (zs s) 0 4) (numL (zs s) 5 2) (numL (zs s) 8 2) (numL (zs s) 11 2) (numL (zs s) 14 2) (numL (zs s) 17 2) := rfl
    rw [← hsec] at k7
    have hor : secL (zs s) = ((secL (zs s)).1, 0) ∨ secL (zs s) = (0, 3) := secV_or _ _ _ _ _ _
    have hsb : (secL (zs s)).2 = 0 → _ := secV_bd (numL (zs s) 0 4) (numL (zs s) 5 2) (numL (zs s) 8 2) (numL (zs s) 11 2) (numL (zs s) 14 2) (numL (zs s) 17 2)
    rw [← hsec] at hsb
    clear hsec
    generalize numL (zs s) 0 4 = n1 at *
    generalize numL (zs s) 5 2 = n2 at *
    generalize numL (zs s) 8 2 = n3 at *
    generalize numL (zs s) 11 2 = n4 at *
    generalize numL (zs s) 14 2 = n5 at *
    generalize numL (zs s) 17 2 = n6 at *
    rcases hor with hor | hor
    · generalize hT : (secL (zs s)).1 = T at *
      rw [hor] at k7 hsb
      have hb := hsb rfl
      clear hsb
      have c6 : ∀ wx, _ := fun wx => dref_is s 19 46 46 wx (by omega) (by omega) (by omega) hs
      rw [show (19 : Int).toNat = 19 from rfl] at c6
      rcases hdot : isL (zs s) 19 46 46 with _ | _
      · rw [hdot] at c6
        have hfr : fracV (zs s) = ((19 : Int).toNat, true) := by unfold fracV; rw [hdot]; rfl
        clear hdot
        have hp0 : parseL (zs s) = if (offV (zs s) (19 : Int).toNat).2 then (if inTime (T - (offV (zs s) (19 : Int).toNat).1) then (T - (offV (zs s) (19 : Int).toNat).1, 0) else (0, 3)) else (0, 20) := by unfold parseL; rw [hsep, hor, hfr]; rfl
        have c8 : ∀ wx, _ := fun wx => dref_offset s 19 wx (by omega) (by omega) hs
        have hbo := offV_bd (zs s) (19 : Int).toNat
        generalize offV (zs s) (19 : Int).toNat = o at *
        obtain ⟨o1, o2⟩ := o
        simp only at hp0 c8 hbo
        rcases o2 with _ | _
        · have HP := Lib.hid (hp0.trans (if_neg (by decide)))
          clear hp0 hsep hor hfr
          go_enter Tryd.func13, Tryd.ntmps13; (go_wp2_with fail); (refine (c1 _).mono ?_); (rintro e w' ⟨rfl, rfl⟩); (go_wp2_with fail); (refine (c2 _).mono ?_); (rintro e w' ⟨rfl, rfl⟩); (go_wp2_with fail); (refine (c3 _).mono ?_); (rintro e w' ⟨rfl, rfl⟩); (go_wp2_with fail); (refine (c4 _).mono ?_); (rintro e w' ⟨rfl, rfl⟩); (go_wp2_with fail); (refine (c5 _).mono ?_); (rintro e w' ⟨rfl, rfl⟩); (go_wp2_with fail); (refine (k1 _).mono ?_); (rintro e w' ⟨rfl, rfl⟩); (go_wp2_with fail); (refine (k2 _).mono ?_); (rintro e w' ⟨rfl, rfl⟩); (go_wp2_with fail); (refine (k3 _).mono ?_); (rintro e w' ⟨rfl, rfl⟩); (go_wp2_with fail); (refine (k4 _).mono ?_); (rintro e w' ⟨rfl, rfl⟩); (go_wp2_with fail); (refine (k5 _).mono ?_); (rintro e w' ⟨rfl, rfl⟩); (go_wp2_with fail); (refine (k6 _).mono ?_); (rintro e w' ⟨rfl, rfl⟩); (go_wp2_with fail); (refine (k7 _).mono ?_); (rintro e w' ⟨rfl, rfl⟩); (go_wp2_with fail); (refine (c6 _).mono ?_); (rintro e w' ⟨rfl, rfl⟩)
          (go_wp2_with fail); (refine (c8 _).mono ?_); (rintro e w' ⟨rfl, rfl⟩)
          go_wp2
          go_ret2
          exact ⟨retP HP.out, rfl⟩
        · have hp1 := hp0.trans (if_pos rfl)
          rcases (by omega : T - o1 < -62135596800 ∨ (-62135596800 ≤ T - o1 ∧ 253402300799 < T - o1) ∨ (-62135596800 ≤ T - o1 ∧ T - o1 ≤ 253402300799)) with g | ⟨g1, g2⟩ | ⟨g1, g2⟩
          · rw [show inTime (T - o1) = false from decide_eq_false (by omega)] at hp1
            have HP := Lib.hid (hp1.trans (if_neg (by decide)))
            clear hp0 hp1 hsep hor hfr
            go_enter Tryd.func13, Tryd.ntmps13; (go_wp2_with fail); (refine (c1 _).mono ?_); (rintro e w' ⟨rfl, rfl⟩); (go_wp2_with fail); (refine (c2 _).mono ?_); (rintro e w' ⟨rfl, rfl⟩); (go_wp2_with fail); (refine (c3 _).mono ?_); (rintro e w' ⟨rfl, rfl⟩); (go_wp2_with fail); (refine (c4 _).mono ?_); (rintro e w' ⟨rfl, rfl⟩); (go_wp2_with fail); (refine (c5 _).mono ?_); (rintro e w' ⟨rfl, rfl⟩); (go_wp2_with fail); (refine (k1 _).mono ?_); (rintro e w' ⟨rfl, rfl⟩); (go_wp2_with fail); (refine (k2 _).mono ?_); (rintro e w' ⟨rfl, rfl⟩); (go_wp2_with fail); (refine (k3 _).mono ?_); (rintro e w' ⟨rfl, rfl⟩); (go_wp2_with fail); (refine (k4 _).mono ?_); (rintro e w' ⟨rfl, rfl⟩); (go_wp2_with fail); (refine (k5 _).mono ?_); (rintro e w' ⟨rfl, rfl⟩); (go_wp2_with fail); (refine (k6 _).mono ?_); (rintro e w' ⟨rfl, rfl⟩); (go_wp2_with fail); (refine (k7 _).mono ?_); (rintro e w' ⟨rfl, rfl⟩); (go_wp2_with fail); (refine (c6 _).mono ?_); (rintro e w' ⟨rfl, rfl⟩)
            (go_wp2_with fail); (refine (c8 _).mono ?_); (rintro e w' ⟨rfl, rfl⟩)
            go_wp2
            go_ret2
            exact ⟨retP HP.out, rfl⟩
          · rw [show inTime (T - o1) = false from decide_eq_false (by omega)] at hp1
            have HP := Lib.hid (hp1.trans (if_neg (by decide)))
            clear hp0 hp1 hsep hor hfr
            go_enter Tryd.func13, Tryd.ntmps13; (go_wp2_with fail); (refine (c1 _).mono ?_); (rintro e w' ⟨rfl, rfl⟩); (go_wp2_with fail); (refine (c2 _).mono ?_); (rintro e w' ⟨rfl, rfl⟩); (go_wp2_with fail); (refine (c3 _).mono ?_); (rintro e w' ⟨rfl, rfl⟩); (go_wp2_with fail); (refine (c4 _).mono ?_); (rintro e w' ⟨rfl, rfl⟩); (go_wp2_with fail); (refine (c5 _).mono ?_); (rintro e w' ⟨rfl, rfl⟩); (go_wp2_with fail); (refine (k1 _).mono ?_); (rintro e w' ⟨rfl, rfl⟩); (go_wp2_with fail); (refine (k2 _).mono ?_); (rintro e w' ⟨rfl, rfl⟩); (go_wp2_with fail); (refine (k3 _).mono ?_); (rintro e w' ⟨rfl, rfl⟩); (go_wp2_with fail); (refine (k4 _).mono ?_); (rintro e w' ⟨rfl, rfl⟩); (go_wp2_with fail); (refine (k5 _).mono ?_); (rintro e w' ⟨rfl, rfl⟩); (go_wp2_with fail); (refine (k6 _).mono ?_); (rintro e w' ⟨rfl, rfl⟩); (go_wp2_with fail); (refine (k7 _).mono ?_); (rintro e w' ⟨rfl, rfl⟩); (go_wp2_with fail); (refine (c6 _).mono ?_); (rintro e w' ⟨rfl, rfl⟩)
            (go_wp2_with fail); (refine (c8 _).mono ?_); (rintro e w' ⟨rfl, rfl⟩)
            go_wp2
            go_ret2
            exact ⟨retP HP.out, rfl⟩
          · rw [show inTime (T - o1) = true from decide_eq_true ⟨g1, g2⟩] at hp1
            have HP := Lib.hid (hp1.trans (if_pos rfl))
            clear hp0 hp1 hsep hor hfr
            go_enter Tryd.func13, Tryd.ntmps13; (go_wp2_with fail); (refine (c1 _).mono ?_); (rintro e w' ⟨rfl, rfl⟩); (go_wp2_with fail); (refine (c2 _).mono ?_); (rintro e w' ⟨rfl, rfl⟩); (go_wp2_with fail); (refine (c3 _).mono ?_); (rintro e w' ⟨rfl, rfl⟩); (go_wp2_with fail); (refine (c4 _).mono ?_); (rintro e w' ⟨rfl, rfl⟩); (go_wp2_with fail); (refine (c5 _).mono ?_); (rintro e w' ⟨rfl, rfl⟩); (go_wp2_with fail); (refine (k1 _).mono ?_); (rintro e w' ⟨rfl, rfl⟩); (go_wp2_with fail); (refine (k2 _).mono ?_); (rintro e w' ⟨rfl, rfl⟩); (go_wp2_with fail); (refine (k3 _).mono ?_); (rintro e w' ⟨rfl, rfl⟩); (go_wp2_with fail); (refine (k4 _).mono ?_); (rintro e w' ⟨rfl, rfl⟩); (go_wp2_with fail); (refine (k5 _).mono ?_); (rintro e w' ⟨rfl, rfl⟩); (go_wp2_with fail); (refine (k6 _).mono ?_); (rintro e w' ⟨rfl, rfl⟩); (go_wp2_with fail); (refine (k7 _).mono ?_); (rintro e w' ⟨rfl, rfl⟩); (go_wp2_with fail); (refine (c6 _).mono ?_); (rintro e w' ⟨rfl, rfl⟩)
            (go_wp2_with fail); (refine (c8 _).mono ?_); (rintro e w' ⟨rfl, rfl⟩)
            go_wp2
            go_ret2
            exact ⟨retP HP.out, rfl⟩
      · rw [hdot] at c6
        have hfr0 : fracV (zs s) = (20 + digs ((zs s).drop 20), decide (0 < digs ((zs s).drop 20))) := by unfold fracV; rw [hdot]; rfl
        have hd20 := digs_at (zs s) 20
        have c7 : ∀ wx, _ := fun wx => dref_Number s 20 1 wx (by omega) (by omega) (by omega) hs (by omega)
        rw [show (20 : Int).toNat = 20 from rfl, show (1 : Int).toNat = 1 from rfl, numL_one] at c7
        clear hdot
        rcases hdg : dgB (ch (zs s) 20) with _ | _
        · rw [hdg] at c7 hd20
          simp only [Bool.false_eq_true, if_false] at c7 hd20
          rw [hd20] at hfr0
          have hp : parseL (zs s) = (0, 20) := by unfold parseL; rw [hsep, hor, hfr0]; rfl
          have HP := Lib.hid hp
          clear hp hfr0 hd20 hdg hsep hor
          go_enter Tryd.func13, Tryd.ntmps13; (go_wp2_with fail); (refine (c1 _).mono ?_); (rintro e w' ⟨rfl, rfl⟩); (go_wp2_with fail); (refine (c2 _).mono ?_); (rintro e w' ⟨rfl, rfl⟩); (go_wp2_with fail); (refine (c3 _).mono ?_); (rintro e w' ⟨rfl, rfl⟩); (go_wp2_with fail); (refine (c4 _).mono ?_); (rintro e w' ⟨rfl, rfl⟩); (go_wp2_with fail); (refine (c5 _).mono ?_); (rintro e w' ⟨rfl, rfl⟩); (go_wp2_with fail); (refine (k1 _).mono ?_); (rintro e w' ⟨rfl, rfl⟩); (go_wp2_with fail); (refine (k2 _).mono ?_); (rintro e w' ⟨rfl, rfl⟩); (go_wp2_with fail); (refine (k3 _).mono ?_); (rintro e w' ⟨rfl, rfl⟩); (go_wp2_with fail); (refine (k4 _).mono ?_); (rintro e w' ⟨rfl, rfl⟩); (go_wp2_with fail); (refine (k5 _).mono ?_); (rintro e w' ⟨rfl, rfl⟩); (go_wp2_with fail); (refine (k6 _).mono ?_); (rintro e w' ⟨rfl, rfl⟩); (go_wp2_with fail); (refine (k7 _).mono ?_); (rintro e w' ⟨rfl, rfl⟩); (go_wp2_with fail); (refine (c6 _).mono ?_); (rintro e w' ⟨rfl, rfl⟩)
          (go_wp2_with fail); (refine (c7 _).mono ?_); (rintro e w' ⟨rfl, rfl⟩)
          go_wp2
          go_ret2
          exact ⟨retP HP.out, rfl⟩
        · have hv := (dgB_iff _).1 hdg
          rw [hdg] at c7 hd20
          simp only [if_true] at c7 hd20
          have hpos : 0 < digs ((zs s).drop 20) := by omega
          rw [decide_eq_true hpos] at hfr0
          have hdl := digs_le ((zs s).drop 20)
          have hzl := zs_length s
          rw [List.length_drop, hzl] at hdl
          have HF := Lib.hid hfr0
          clear hfr0 hd20 hdg hzl
          generalize hv2 : ch (zs s) 20 - 48 = v at *
          have hv3 : 0 ≤ v := by omega
          clear hv2 hv
          go_enter Tryd.func13, Tryd.ntmps13; (go_wp2_with fail); (refine (c1 _).mono ?_); (rintro e w' ⟨rfl, rfl⟩); (go_wp2_with fail); (refine (c2 _).mono ?_); (rintro e w' ⟨rfl, rfl⟩); (go_wp2_with fail); (refine (c3 _).mono ?_); (rintro e w' ⟨rfl, rfl⟩); (go_wp2_with fail); (refine (c4 _).mono ?_); (rintro e w' ⟨rfl, rfl⟩); (go_wp2_with fail); (refine (c5 _).mono ?_); (rintro e w' ⟨rfl, rfl⟩); (go_wp2_with fail); (refine (k1 _).mono ?_); (rintro e w' ⟨rfl, rfl⟩); (go_wp2_with fail); (refine (k2 _).mono ?_); (rintro e w' ⟨rfl, rfl⟩); (go_wp2_with fail); (refine (k3 _).mono ?_); (rintro e w' ⟨rfl, rfl⟩); (go_wp2_with fail); (refine (k4 _).mono ?_); (rintro e w' ⟨rfl, rfl⟩); (go_wp2_with fail); (refine (k5 _).mono ?_); (rintro e w' ⟨rfl, rfl⟩); (go_wp2_with fail); (refine (k6 _).mono ?_); (rintro e w' ⟨rfl, rfl⟩); (go_wp2_with fail); (refine (k7 _).mono ?_); (rintro e w' ⟨rfl, rfl⟩); (go_wp2_with fail); (refine (c6 _).mono ?_); (rintro e w' ⟨rfl, rfl⟩)
          (go_wp2_with fail); (refine (c7 _).mono ?_); (rintro e w' ⟨rfl, rfl⟩)
          go_wp2
          go_loop [6] (fun i => ∃ a : Int, 20 ≤ a ∧ a ≤ 20 + (s.size : Int) ∧ i = .int .i64 a ∧ digs ((zs s).drop 20) = (a - 20).toNat + digs ((zs s).drop a.toNat)) (fun i => (21 + s.size : Nat) - (intOf i).toNat)
          case atStart => exact ⟨20, by omega, by omega, rfl, by simp⟩
          case round =>
            obtain ⟨a, ha0, ha1, rfl, hda⟩ := hrel
            have hat := digs_at (zs s) a.toNat
            have c9 : ∀ wx, _ := fun wx => dref_Number s a 1 wx (by omega) (by omega) (by omega) hs (by omega)
            rw [show (1 : Int).toNat = 1 from rfl, numL_one] at c9
            rcases hdg : dgB (ch (zs s) a.toNat) with _ | _
            · rw [hdg] at c9 hat
              simp only [Bool.false_eq_true, if_false] at c9 hat
              have hfr : fracV (zs s) = ((a : Int).toNat, true) := by rw [HF.out]; exact congrArg (fun x => (x, true)) (by omega)
              clear hat hda hdg hdl
              have hp0 : parseL (zs s) = if (offV (zs s) (a : Int).toNat).2 then (if inTime (T - (offV (zs s) (a : Int).toNat).1) then (T - (offV (zs s) (a : Int).toNat).1, 0) else (0, 3)) else (0, 20) := by unfold parseL; rw [hsep, hor, hfr]; rfl
              have c8 : ∀ wx, _ := fun wx => dref_offset s a wx (by omega) (by omega) hs
              have hbo := offV_bd (zs s) (a : Int).toNat
              generalize offV (zs s) (a : Int).toNat = o at *
              obtain ⟨o1, o2⟩ := o
              simp only at hp0 c8 hbo
              rcases o2 with _ | _
              · have HP := Lib.hid (hp0.trans (if_neg (by decide)))
                clear hp0 hsep hor hfr
                (go_wp2_with fail); (refine (c9 _).mono ?_); (rintro e w' ⟨rfl, rfl⟩)
                (go_wp2_with fail); (refine (c8 _).mono ?_); (rintro e w' ⟨rfl, rfl⟩)
                go_wp2
                go_ret2
                exact ⟨retP HP.out, rfl⟩
              · have hp1 := hp0.trans (if_pos rfl)
                rcases (by omega : T - o1 < -62135596800 ∨ (-62135596800 ≤ T - o1 ∧ 253402300799 < T - o1) ∨ (-62135596800 ≤ T - o1 ∧ T - o1 ≤ 253402300799)) with g | ⟨g1, g2⟩ | ⟨g1, g2⟩
                · rw [show inTime (T - o1) = false from decide_eq_false (by omega)] at hp1
                  have HP := Lib.hid (hp1.trans (if_neg (by decide)))
                  clear hp0 hp1 hsep hor hfr
                  (go_wp2_with fail); (refine (c9 _).mono ?_); (rintro e w' ⟨rfl, rfl⟩)
                  (go_wp2_with fail); (refine (c8 _).mono ?_); (rintro e w' ⟨rfl, rfl⟩)
                  go_wp2
                  go_ret2
                  exact ⟨retP HP.out, rfl⟩
                · rw [show inTime (T - o1) = false from decide_eq_false (by omega)] at hp1
                  have HP := Lib.hid (hp1.trans (if_neg (by decide)))
                  clear hp0 hp1 hsep hor hfr
                  (go_wp2_with fail); (refine (c9 _).mono ?_); (rintro e w' ⟨rfl, rfl⟩)
                  (go_wp2_with fail); (refine (c8 _).mono ?_); (rintro e w' ⟨rfl, rfl⟩)
                  go_wp2
                  go_ret2
                  exact ⟨retP HP.out, rfl⟩
                · rw [show inTime (T - o1) = true from decide_eq_true ⟨g1, g2⟩] at hp1
                  have HP := Lib.hid (hp1.trans (if_pos rfl))
                  clear hp0 hp1 hsep hor hfr
                  (go_wp2_with fail); (refine (c9 _).mono ?_); (rintro e w' ⟨rfl, rfl⟩)
                  (go_wp2_with fail); (refine (c8 _).mono ?_); (rintro e w' ⟨rfl, rfl⟩)
                  go_wp2
                  go_ret2
                  exact ⟨retP HP.out, rfl⟩
            · have hv := (dgB_iff _).1 hdg
              rw [hdg] at c9 hat
              simp only [if_true] at c9 hat
              generalize hu : ch (zs s) a.toNat - 48 = u at *
              have hu3 : 0 ≤ u := by omega
              have HD := Lib.hid (show digs ((zs s).drop 20) = (a + 1 - 20).toNat + digs ((zs s).drop (a + 1).toNat) by rw [show (a + 1).toNat = a.toNat + 1 by omega]; omega)
              have hlt : a < 20 + (s.size : Int) := by omega
              clear hat hda hdg hv hu hdl
              (go_wp2_with fail); (refine (c9 _).mono ?_); (rintro e w' ⟨rfl, rfl⟩)
              go_wp2
              go_round
              case rel => exact ⟨a + 1, by omega, by omega, by go_num, HD.out⟩
              case measure => simp [intOf]; omega
    · have hp : parseL (zs s) = (0, 20) := by unfold parseL; rw [hsep, hor]; rfl
      rw [hp]
      rw [hor] at k7
      clear hp hor hsb hsep
      go_enter Tryd.func13, Tryd.ntmps13
      (go_wp2_with fail); (refine (c1 _).mono ?_); (rintro e w' ⟨rfl, rfl⟩)
      (go_wp2_with fail); (refine (c2 _).mono ?_); (rintro e w' ⟨rfl, rfl⟩)
      (go_wp2_with fail); (refine (c3 _).mono ?_); (rintro e w' ⟨rfl, rfl⟩)
      (go_wp2_with fail); (refine (c4 _).mono ?_); (rintro e w' ⟨rfl, rfl⟩)
      (go_wp2_with fail); (refine (c5 _).mono ?_); (rintro e w' ⟨rfl, rfl⟩)
      (go_wp2_with fail); (refine (k1 _).mono ?_); (rintro e w' ⟨rfl, rfl⟩)
      (go_wp2_with fail); (refine (k2 _).mono ?_); (rintro e w' ⟨rfl, rfl⟩)
      (go_wp2_with fail); (refine (k3 _).mono ?_); (rintro e w' ⟨rfl, rfl⟩)
      (go_wp2_with fail); (refine (k4 _).mono ?_); (rintro e w' ⟨rfl, rfl⟩)
      (go_wp2_with fail); (refine (k5 _).mono ?_); (rintro e w' ⟨rfl, rfl⟩)
      (go_wp2_with fail); (refine (k6 _).mono ?_); (rintro e w' ⟨rfl, rfl⟩)
      (go_wp2_with fail); (refine (k7 _).mono ?_); (rintro e w' ⟨rfl, rfl⟩)
      go_wp2
      go_ret2
      exact ⟨rfl, rfl⟩
end Go.Proofs.YtmcokldninhgdaaDoor
