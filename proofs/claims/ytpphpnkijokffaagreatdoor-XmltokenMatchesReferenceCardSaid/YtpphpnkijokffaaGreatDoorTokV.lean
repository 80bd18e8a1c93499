/- Package xmltoken: the cursor's tag and construct: what each returns and leaves. Package xmltoken: the cursor's construct: what it returns and leaves. Package xmltoken: Tokens and IsQName: what each returns. The walks of the laws of layer 6: the examples; the comparison with the reference. -/
import Derived.Test.YtpphpnkijokffaaGreatDoorTagE
import Derived.Test.YtpphpnkijokffaaGreatDoorTokM
import Derived.Deep.DeepCutAuto
namespace Go.Proofs.YtpphpnkijokffaaGreatDoor
section
open Go.RowKit

set_option maxRecDepth 100000 in
set_option maxHeartbeats 8000000 in
theorem cur_section_no (p : Nat) (s o t : ByteArray) (k : Nat) (w : World) (hC : Cur w p s k) (hk : k + o.size ≤ s.size) (hs : s.size ≤ 1000000) (ho : o.size ≤ 100) (ht : t.size ≤ 100) (hT : TkT p w) (hi : Lib.index (s.data.toList.drop (k + o.size)) t.data.toList = -1) :
    Calls Tryz.prog 26 #[.pointer (some ⟨p, 0, none⟩), .string o, .string t] w fun e w' => e = .returned (.tuple #[.string ⟨#[]⟩, .int .i64 8]) ∧ Cur w' p s k ∧ Keep p w w' := by
  have hsl : s.data.toList.length = s.size := by simp
  have htl : t.data.toList.length = t.size := by simp
  have cR : ∀ wx, Cur wx p s k → _ := fun wx h => cur_rest p s k wx h (by omega)
  have hRl : (ofBytes (s.data.toList.drop k)).data.toList = s.data.toList.drop k := ofBytes_list _
  have hRz : (ofBytes (s.data.toList.drop k)).size = s.size - k := by rw [ofBytes_size, List.length_drop, hsl]
  have hsf : ∀ wx, _ := fun wx => slice_from (ofBytes (s.data.toList.drop k)) (o.size : Nat) (by omega) (by omega) wx
  rw [Int.toNat_natCast, kext, hRl, List.take_of_length_le (by rw [List.length_drop, List.length_drop, hRz]; omega), List.drop_drop] at hsf
  have hQl : (ofBytes (s.data.toList.drop (k + o.size))).data.toList = s.data.toList.drop (k + o.size) := ofBytes_list _
  have hQz : (ofBytes (s.data.toList.drop (k + o.size))).size = s.size - (k + o.size) := by rw [ofBytes_size, List.length_drop, hsl]
  obtain ⟨m, hm⟩ := hT.tabs.2.2
  have hmb := kblock_lt hm
  have cC : ∀ wx : World, wx.cell? ⟨4, 0, none⟩ = some (Value.int .i64 m) → _ := fun wx h => Tryz.strings_Cut (ofBytes (s.data.toList.drop (k + o.size))) t m wx (by omega) h
  rw [hQl] at cC
  have hk6 : (k : Int) ≤ 1000000 := by omega
  have ho6 : (o.size : Int) ≤ 100 := by omega
  have ht6 : (t.size : Int) ≤ 100 := by omega
  have HC := Lib.hid hC
  have hcut : Lib.cut (s.data.toList.drop (k + o.size)) t.data.toList = (s.data.toList.drop (k + o.size), [], false) := by
    unfold Lib.cut; rw [if_neg (by omega)]
  rw [hcut] at cC
  simp only at cC
  generalize (⟨(s.data.toList.drop (k + o.size)).toArray⟩ : ByteArray) = Q2 at *
  generalize ofBytes (s.data.toList.drop (k + o.size)) = Q at *
  generalize ofBytes (s.data.toList.drop k) = R at *
  clear hi hcut hsl htl hQl hQz hRl hRz hC
  go_enter Tryz.func26, Tryz.ntmps26
  go_wp2_with fail
  refine (cR _ HC.out).mono ?_
  rintro e w1 ⟨rfl, b1⟩
  have C1 := Lib.hid (Cur.keep HC.out b1)
  have hm1 := (b1.cell hmb).trans hm
  go_wp2_with fail
  refine (cC _ hm1).mono ?_
  rintro e w2 ⟨rfl, n, rfl⟩
  go_wp2
  exact bodyPost_ret (v := .tuple #[.string ⟨#[]⟩, .int .i64 8]) (by simp [results, Tryz.results26, go_sem]) rfl ⟨rfl, C1.out, (Keep.of b1).drewN n⟩
theorem cur_sect (p : Nat) (s o t : ByteArray) (k : Nat) (w : World) (hC : Cur w p s k) (hk : k + o.size ≤ s.size) (hs : s.size ≤ 1000000) (ho : o.size ≤ 100) (ht : t.size ≤ 100) (ht0 : 0 < t.size) (hT : TkT p w) :
    Calls Tryz.prog 26 #[.pointer (some ⟨p, 0, none⟩), .string o, .string t] w fun e w' => (∃ x, e = .returned (.tuple #[.string x, .int .i64 (skipP s.data.toList k o.size t.data.toList).2]) ∧ x.size ≤ 1000000 ∧ ((skipP s.data.toList k o.size t.data.toList).2 = 0 → x = ofBytes ((s.data.toList.drop (k + o.size)).take ((skipP s.data.toList k o.size t.data.toList).1.toNat - t.size - (k + o.size))))) ∧ Cur w' p s (skipP s.data.toList k o.size t.data.toList).1 ∧ Keep p w w' := by
  have hsl : s.data.toList.length = s.size := by simp
  by_cases hi : Lib.index (s.data.toList.drop (k + o.size)) t.data.toList = -1
  · have hsk : skipP s.data.toList k o.size t.data.toList = ((k : Int), 8) := by rw [skipP_def, nextP_def, if_pos hi]; rfl
    rw [hsk]
    exact (cur_section_no p s o t k w hC hk hs ho ht hT hi).mono fun _ _ ⟨a, b, c⟩ => ⟨⟨_, a, by decide, fun h => absurd (show (8 : Int) = 0 from h) (by decide)⟩, b, c⟩
  · have hge := Lib.index_ge (s.data.toList.drop (k + o.size)) t.data.toList
    have hsk : (skipP s.data.toList k o.size t.data.toList).2 = 0 := by rw [skipP_def, nextP_def, if_neg hi, if_neg (by omega)]
    refine (cur_section p s o t k w hC hk hs ho ht ht0 hT).mono ?_
    rintro e w' ⟨⟨x, a, b⟩, c, d⟩
    refine ⟨⟨x, a, ?_, b⟩, c, d⟩
    rw [b hsk, ofBytes_size, List.length_take, List.length_drop]
    omega
/-- Within tag: the cursor, the block of the result, the reader's block. -/
def TG (w wx : World) (p : Nat) (s : ByteArray) (i k : Int) : Prop := Cur wx p s k ∧ Keep p w wx ∧ Blk wx w.heap.size #[.int .i64 0, .string ⟨#[]⟩, .slice none 0 0, .bool false, .string ⟨#[]⟩, .int .i64 0] 38 ∧ Blk wx (w.heap.size + 1) (rdrC p i) 73 ∧ p < w.heap.size
theorem TG.step {w wx wy : World} {p : Nat} {s : ByteArray} {i k k' : Int} (h : TG w wx p s i k) (c : Cur wy p s k') (q : Keep p wx wy) : TG w wy p s i k' := by
  have hp := h.2.2.2.2
  exact ⟨c, h.2.1.trans q, h.2.2.1.keep q (by omega), h.2.2.2.1.keep q (by omega), hp⟩
theorem TG.more {w wx wy : World} {p : Nat} {s : ByteArray} {i k : Int} (h : TG w wx p s i k) (b : Below wx.heap.size wx wy) : TG w wy p s i k := h.step (h.1.keep b) (Keep.of b)
theorem TG.g0 {w wx : World} {p : Nat} {s : ByteArray} {i k : Int} (h : TG w wx p s i k) : wx.cell? ⟨w.heap.size + 1, 0, none⟩ = some (.pointer (some ⟨p, 0, none⟩)) := (h.2.2.2.1.cell 0).trans rfl
theorem TG.g1 {w wx : World} {p : Nat} {s : ByteArray} {i k : Int} (h : TG w wx p s i k) : wx.cell? ⟨w.heap.size + 1, 1, none⟩ = some (.int .i64 i) := (h.2.2.2.1.cell 1).trans rfl
theorem TG.new {w : World} {p : Nat} {s : ByteArray} {k : Int} (h : Cur w p s k) (i : Int) : TG w ((w.alloc (.cells #[.int .i64 0, .string ⟨#[]⟩, .slice none 0 0, .bool false, .string ⟨#[]⟩, .int .i64 0] 38)).alloc (.cells #[.pointer (some ⟨p, 0, none⟩), .int .i64 i] 73)) p s i k := by
  have h1 := h.keep ((Below.refl _ _).alloc (Nat.le_refl _) (.cells #[.int .i64 0, .string ⟨#[]⟩, .slice none 0 0, .bool false, .string ⟨#[]⟩, .int .i64 0] 38))
  have hz : (w.alloc (.cells #[.int .i64 0, .string ⟨#[]⟩, .slice none 0 0, .bool false, .string ⟨#[]⟩, .int .i64 0] 38)).heap.size = w.heap.size + 1 := by simp
  refine ⟨h1.keep ((Below.refl _ _).alloc (Nat.le_refl _) _), ((Keep.refl _ _).alloc _).alloc _, (Blk.new _ _ _).more ((Below.refl _ _).alloc (Nat.le_refl _) _), ?_, h.lt⟩
  have := Blk.new (w.alloc (.cells #[.int .i64 0, .string ⟨#[]⟩, .slice none 0 0, .bool false, .string ⟨#[]⟩, .int .i64 0] 38)) #[.pointer (some ⟨p, 0, none⟩), .int .i64 i] 73
  rw [hz] at this
  exact this
set_option maxRecDepth 100000 in
set_option maxHeartbeats 16000000 in
theorem cur_tag_end (p : Nat) (s : ByteArray) (i : Nat) (w : World) (hC : Cur w p s i) (hb : hasP s.data.toList (i : Int) [60, 47] = true) (hs : s.size ≤ 1000000) (hT : TkT p w) :
    Calls Tryz.prog 28 #[.pointer (some ⟨p, 0, none⟩)] w fun e w' => ConC w p s (⟨2, (endP s i).1, [], false, [], i⟩, (endP s i).2.1, (endP s i).2.2) e w' := by
  have hsl : s.data.toList.length = s.size := by simp
  have hi : i + 2 ≤ s.size := by
    have := hasP_len hb (by simp)
    simp only [List.length_cons, List.length_nil] at this
    omega
  have q0 := hC.c1
  have hpw := hC.lt
  have D0 := Lib.hid (TG.new hC i)
  have cY : ∀ wx, Cur wx p s i → _ := fun wx h => cur_skip_yes p s ⟨#[60, 47]⟩ i wx h (by omega) hs (by decide) hb
  rw [show ((⟨#[60, 47]⟩ : ByteArray).size : Int) = 2 from rfl] at cY
  have cX : ∀ wx, Cur wx p s ((i : Int) + 2) → TkT p wx → _ := fun wx h t => tag_end p s i wx (by rw [show ((i + 2 : Nat) : Int) = (i : Int) + 2 by omega]; exact h) hi hs t
  unfold ConC rdrV at cX
  unfold ConC
  clear hsl hb hC
  go_enter Tryz.func28, Tryz.ntmps28
  go_wp2_with fail
  refine (cY _ D0.out.1).mono ?_
  rintro e w1 ⟨rfl, c1, k1⟩
  have D1 := Lib.hid (D0.out.step c1 k1)
  have g0 := D1.out.g0
  have g1 := D1.out.g1
  have t1 := hT.keep D1.out.2.1
  clear c1 k1
  go_wp2_with fail
  refine (cX _ D1.out.1 t1).mono ?_
  rintro e w2 ⟨T, v, rfl, hrow, c2, k2, hor⟩
  have hb1 := D1.out.2.2.2.1.lt
  have D2 := Lib.hid (D1.out.step c2 k2)
  obtain ⟨A, c, rfl⟩ := own_form hrow
  have HR := Lib.hid (Go.Joins.ownsRow_le hrow (show w.heap.size + 2 ≤ w1.heap.size by omega))
  have HO := Lib.hid hor
  clear c2 k2 hor hrow t1 g0 g1 q0
  obtain ⟨⟨r0, r1, r2, r3, r4, r5⟩, f0, f1, f2, f3, f4, f5⟩ := Blk.six D2.out.2.2.1
  unfold tokVal
  go_wp2
  exact bodyPost_ret (v := .tuple #[.agg #[.int .i64 T.kind, .string (ofBytes T.nm), .slice A T.al.length c, .bool T.em, .string (ofBytes T.tx), .int .i64 T.at'], _]) (by simp [results, Tryz.results28, go_sem, cell_set_same, r0, r1, r2, r3, r4, r5]) rfl ⟨T, .slice A T.al.length c, rfl, Go.Joins.ownsRow_le (row_set6 HR.out (fun e => by have := (HR.out.lt _ e).1; omega) _ _ _ _ _ _) (by omega), Cur.set6 D2.out.1 (by omega) _ _ _ _ _ _, Keep.set6 D2.out.2.1 (by omega) _ _ _ _ _ _, HO.out⟩
set_option maxRecDepth 100000 in
set_option maxHeartbeats 16000000 in
theorem cur_tag_start (p : Nat) (s : ByteArray) (i : Nat) (w : World) (hC : Cur w p s i) (hn : hasP s.data.toList (i : Int) [60, 47] = false) (hb : hasP s.data.toList (i : Int) [60] = true) (hs : s.size ≤ 1000000) (hT : TkT p w) :
    Calls Tryz.prog 28 #[.pointer (some ⟨p, 0, none⟩)] w fun e w' => ConC w p s (⟨1, (startP s i).nm, (startP s i).al, (startP s i).em, [], i⟩, (startP s i).p1, (startP s i).p2) e w' := by
  have hsl : s.data.toList.length = s.size := by simp
  have hi : i + 1 ≤ s.size := by
    have := hasP_len hb (by simp)
    simp only [List.length_cons, List.length_nil] at this
    omega
  have q0 := hC.c1
  have hpw := hC.lt
  have D0 := Lib.hid (TG.new hC i)
  have cZ : ∀ wx, Cur wx p s i → _ := fun wx h => cur_skip_no p s ⟨#[60, 47]⟩ i wx h (by omega) hn
  have cY : ∀ wx, Cur wx p s i → _ := fun wx h => cur_skip_yes p s ⟨#[60]⟩ i wx h (by omega) hs (by decide) hb
  rw [show ((⟨#[60]⟩ : ByteArray).size : Int) = 1 from rfl] at cY
  have cX : ∀ wx, Cur wx p s ((i : Int) + 1) → TkT p wx → _ := fun wx h t => tag_start p s i wx (by rw [show ((i + 1 : Nat) : Int) = (i : Int) + 1 by omega]; exact h) hi hs t
  unfold ConC rdrV at cX
  unfold ConC
  clear hsl hb hC hn
  go_enter Tryz.func28, Tryz.ntmps28
  go_wp2_with fail
  refine (cZ _ D0.out.1).mono ?_
  rintro e w0 ⟨rfl, b0⟩
  have D9 := Lib.hid (D0.out.more b0)
  have g0 := D9.out.g0
  clear b0
  go_wp2_with fail
  refine (cY _ D9.out.1).mono ?_
  rintro e w1 ⟨rfl, c1, k1⟩
  have D1 := Lib.hid (D9.out.step c1 k1)
  clear g0
  have g0 := D1.out.g0
  have g1 := D1.out.g1
  have t1 := hT.keep D1.out.2.1
  clear c1 k1
  go_wp2_with fail
  refine (cX _ D1.out.1 t1).mono ?_
  rintro e w2 ⟨T, v, rfl, hrow, c2, k2, hor⟩
  have hb1 := D1.out.2.2.2.1.lt
  have D2 := Lib.hid (D1.out.step c2 k2)
  obtain ⟨A, c, rfl⟩ := own_form hrow
  have HR := Lib.hid (Go.Joins.ownsRow_le hrow (show w.heap.size + 2 ≤ w1.heap.size by omega))
  have HO := Lib.hid hor
  clear c2 k2 hor hrow t1 g0 g1 q0
  obtain ⟨⟨r0, r1, r2, r3, r4, r5⟩, f0, f1, f2, f3, f4, f5⟩ := Blk.six D2.out.2.2.1
  unfold tokVal
  go_wp2
  exact bodyPost_ret (v := .tuple #[.agg #[.int .i64 T.kind, .string (ofBytes T.nm), .slice A T.al.length c, .bool T.em, .string (ofBytes T.tx), .int .i64 T.at'], _]) (by simp [results, Tryz.results28, go_sem, cell_set_same, r0, r1, r2, r3, r4, r5]) rfl ⟨T, .slice A T.al.length c, rfl, Go.Joins.ownsRow_le (row_set6 HR.out (fun e => by have := (HR.out.lt _ e).1; omega) _ _ _ _ _ _) (by omega), Cur.set6 D2.out.1 (by omega) _ _ _ _ _ _, Keep.set6 D2.out.2.1 (by omega) _ _ _ _ _ _, HO.out⟩
end
section
open Go.RowKit

/-- Within construct: the cursor, the block of the result. -/
def CG (w wx : World) (p : Nat) (s : ByteArray) (k : Int) : Prop := Cur wx p s k ∧ Keep p w wx ∧ Blk wx w.heap.size #[.int .i64 0, .string ⟨#[]⟩, .slice none 0 0, .bool false, .string ⟨#[]⟩, .int .i64 0] 38 ∧ p < w.heap.size
theorem CG.step {w wx wy : World} {p : Nat} {s : ByteArray} {k k' : Int} (h : CG w wx p s k) (c : Cur wy p s k') (q : Keep p wx wy) : CG w wy p s k' := ⟨c, h.2.1.trans q, h.2.2.1.keep q (by have := h.2.2.2; omega), h.2.2.2⟩
theorem CG.more {w wx wy : World} {p : Nat} {s : ByteArray} {k : Int} (h : CG w wx p s k) (b : Below wx.heap.size wx wy) : CG w wy p s k := h.step (h.1.keep b) (Keep.of b)
theorem CG.new {w : World} {p : Nat} {s : ByteArray} {k : Int} (h : Cur w p s k) : CG w (w.alloc (.cells #[.int .i64 0, .string ⟨#[]⟩, .slice none 0 0, .bool false, .string ⟨#[]⟩, .int .i64 0] 38)) p s k :=
  ⟨h.keep ((Below.refl _ _).alloc (Nat.le_refl _) _), (Keep.refl _ _).alloc _, Blk.new _ _ _, h.lt⟩
set_option maxRecDepth 100000 in
set_option maxHeartbeats 16000000 in
theorem cur_construct (p : Nat) (s : ByteArray) (i : Nat) (w : World) (hC : Cur w p s i) (hi : i < s.size) (hs : s.size ≤ 1000000) (hT : TkT p w) :
    Calls Tryz.prog 15 #[.pointer (some ⟨p, 0, none⟩)] w fun e w' => ConC w p s (consP s i) e w' := by
  have hsl : s.data.toList.length = s.size := by simp
  have hpw := hC.lt
  have D0 := Lib.hid (CG.new hC)
  have k1 : ∀ wx, Cur wx p s i → _ := fun wx h => cur_starts p s ⟨#[60, 63]⟩ i _ wx h (by omega) rfl
  have k2 : ∀ wx, Cur wx p s i → _ := fun wx h => cur_starts p s ⟨#[60, 33, 45, 45]⟩ i _ wx h (by omega) rfl
  have k3 : ∀ wx, Cur wx p s i → _ := fun wx h => cur_starts p s ⟨#[60, 33, 91, 67, 68, 65, 84, 65, 91]⟩ i _ wx h (by omega) rfl
  have k4 : ∀ wx, Cur wx p s i → _ := fun wx h => cur_starts p s ⟨#[60, 33, 68, 79, 67, 84, 89, 80, 69]⟩ i _ wx h (by omega) rfl
  have k5 : ∀ wx, Cur wx p s i → _ := fun wx h => cur_starts p s ⟨#[60, 33]⟩ i _ wx h (by omega) rfl
  have k7 : ∀ wx, Cur wx p s i → _ := fun wx h => cur_starts p s ⟨#[60]⟩ i _ wx h (by omega) rfl
  rw [show (⟨#[60, 63]⟩ : ByteArray).data.toList = [60, 63] from rfl] at k1
  rw [show (⟨#[60, 33, 45, 45]⟩ : ByteArray).data.toList = [60, 33, 45, 45] from rfl] at k2
  rw [show (⟨#[60, 33, 91, 67, 68, 65, 84, 65, 91]⟩ : ByteArray).data.toList = [60, 33, 91, 67, 68, 65, 84, 65, 91] from rfl] at k3
  rw [show (⟨#[60, 33, 68, 79, 67, 84, 89, 80, 69]⟩ : ByteArray).data.toList = [60, 33, 68, 79, 67, 84, 89, 80, 69] from rfl] at k4
  rw [show (⟨#[60, 33]⟩ : ByteArray).data.toList = [60, 33] from rfl] at k5
  rw [show (⟨#[60]⟩ : ByteArray).data.toList = [60] from rfl] at k7
  unfold ConC
  obtain ⟨CP, hE⟩ : ∃ CP, consP s i = CP := ⟨_, rfl⟩
  rw [hE]
  unfold consP at hE
  rcases h1 : hasP s.data.toList (i : Int) [60, 63] with _ | _
  · rw [h1] at hE k1
    rw [if_neg (by decide)] at hE
    rcases h2 : hasP s.data.toList (i : Int) [60, 33, 45, 45] with _ | _
    · rw [h2] at hE k2
      rw [if_neg (by decide)] at hE
      rcases h3 : hasP s.data.toList (i : Int) [60, 33, 91, 67, 68, 65, 84, 65, 91] with _ | _
      · rw [h3] at hE k3
        rw [if_neg (by decide)] at hE
        rcases h4 : hasP s.data.toList (i : Int) [60, 33, 68, 79, 67, 84, 89, 80, 69] with _ | _
        · rw [h4] at hE k4
          rw [if_neg (by decide)] at hE
          rcases h5 : hasP s.data.toList (i : Int) [60, 33] with _ | _
          · rw [h5] at hE k5
            rw [if_neg (by decide)] at hE
            rcases h6 : hasP s.data.toList (i : Int) [60, 47] with _ | _
            · rw [h6] at hE
              rw [if_neg (by decide)] at hE
              rcases h7 : hasP s.data.toList (i : Int) [60] with _ | _
              · rw [h7] at hE k7
                rw [if_neg (by decide)] at hE
                unfold dataP at hE
                rw [stop_lt s _ i (Nat.le_refl _) (by omega)] at hE
                have q0 := hC.c1
                have cD : ∀ wx, Cur wx p s i → TkT p wx → _ := fun wx h t => cur_data_false p s ⟨#[60]⟩ i [60] wx h (by omega) hs (by intro c hc; simp at hc; simp [hc]) rfl (by decide) (by decide) t
                generalize contP s.data.toList i (stopAt [60] s.data.toList i) false = cp at *
                obtain ⟨V, x1, x2⟩ := cp
                subst hE
                simp only at cD
                clear h1 h2 h3 h4 h5 h6 h7 hsl hC
                go_enter Tryz.func15, Tryz.ntmps15
                go_wp2_with fail
                refine (k1 _ D0.out.1).mono ?_
                rintro e w1 ⟨rfl, b1⟩
                have D1 := Lib.hid (D0.out.more b1)
                clear b1
                go_wp2_with fail
                refine (k2 _ D1.out.1).mono ?_
                rintro e w2 ⟨rfl, b2⟩
                have D2 := Lib.hid (D1.out.more b2)
                clear b2
                go_wp2_with fail
                refine (k3 _ D2.out.1).mono ?_
                rintro e w3 ⟨rfl, b3⟩
                have D3 := Lib.hid (D2.out.more b3)
                clear b3
                go_wp2_with fail
                refine (k4 _ D3.out.1).mono ?_
                rintro e w4 ⟨rfl, b4⟩
                have D4 := Lib.hid (D3.out.more b4)
                clear b4
                go_wp2_with fail
                refine (k5 _ D4.out.1).mono ?_
                rintro e w5 ⟨rfl, b5⟩
                have D5 := Lib.hid (D4.out.more b5)
                clear b5
                go_wp2_with fail
                refine (k7 _ D5.out.1).mono ?_
                rintro e w8 ⟨rfl, b8⟩
                have D8 := Lib.hid (D5.out.more b8)
                clear b8
                have t8 := hT.keep D8.out.2.1
                have q8 := D8.out.1.c1
                go_wp2_with fail
                refine (cD _ D8.out.1 t8).mono ?_
                rintro e w9 ⟨rfl, c9, k9⟩
                have D9 := Lib.hid (D8.out.step c9 k9)
                clear c9 k9 t8 q8
                obtain ⟨⟨r0, r1, r2, r3, r4, r5⟩, f0, f1, f2, f3, f4, f5⟩ := Blk.six D9.out.2.2.1
                go_wp2
                exact bodyPost_ret (v := .tuple #[(.agg #[.int .i64 3, .string ⟨#[]⟩, .slice none 0 0, .bool false, .string (ofBytes V), .int .i64 (i : Int)]), .int .i64 x2]) (by simp [results, Tryz.results15, go_sem, cell_set_same, r0, r1, r2, r3, r4, r5]) rfl ⟨(tokT V i), _, rfl, World.ownsRow_nil _ _ _ _, Cur.set6 D9.out.1 (by omega) _ _ _ _ _ _, Keep.set6 D9.out.2.1 (by omega) _ _ _ _ _ _, fun _ => .inl rfl⟩
              · rw [h7] at hE k7
                rw [if_pos rfl] at hE
                have cT : ∀ wx, Cur wx p s i → TkT p wx → _ := fun wx h t => cur_tag_start p s i wx h h6 h7 hs t
                have hi1 := hC.lt
                subst hE
                unfold ConC at cT
                clear h1 h2 h3 h4 h5 h6 h7 hsl
                go_enter Tryz.func15, Tryz.ntmps15
                go_wp2_with fail
                refine (k1 _ D0.out.1).mono ?_
                rintro e w1 ⟨rfl, b1⟩
                have D1 := Lib.hid (D0.out.more b1)
                clear b1
                go_wp2_with fail
                refine (k2 _ D1.out.1).mono ?_
                rintro e w2 ⟨rfl, b2⟩
                have D2 := Lib.hid (D1.out.more b2)
                clear b2
                go_wp2_with fail
                refine (k3 _ D2.out.1).mono ?_
                rintro e w3 ⟨rfl, b3⟩
                have D3 := Lib.hid (D2.out.more b3)
                clear b3
                go_wp2_with fail
                refine (k4 _ D3.out.1).mono ?_
                rintro e w4 ⟨rfl, b4⟩
                have D4 := Lib.hid (D3.out.more b4)
                clear b4
                go_wp2_with fail
                refine (k5 _ D4.out.1).mono ?_
                rintro e w5 ⟨rfl, b5⟩
                have D5 := Lib.hid (D4.out.more b5)
                clear b5
                go_wp2_with fail
                refine (k7 _ D5.out.1).mono ?_
                rintro e w8 ⟨rfl, b8⟩
                have D8 := Lib.hid (D5.out.more b8)
                clear b8
                have t8 := hT.keep D8.out.2.1
                go_wp2_with fail
                refine (cT _ D8.out.1 t8).mono ?_
                rintro e w9 ⟨T, v, rfl, hrow, c9, k9, hor⟩
                have hb1 := D8.out.2.2.1.lt
                have D9 := Lib.hid (D8.out.step c9 k9)
                obtain ⟨A, c, rfl⟩ := own_form hrow
                have HR := Lib.hid (Go.Joins.ownsRow_le hrow (show w.heap.size + 1 ≤ w8.heap.size by omega))
                have HO := Lib.hid hor
                clear c9 k9 hor hrow t8
                unfold tokVal
                obtain ⟨⟨r0, r1, r2, r3, r4, r5⟩, f0, f1, f2, f3, f4, f5⟩ := Blk.six D9.out.2.2.1
                go_wp2
                exact bodyPost_ret (v := .tuple #[(.agg #[.int .i64 T.kind, .string (ofBytes T.nm), .slice A T.al.length c, .bool T.em, .string (ofBytes T.tx), .int .i64 T.at']), .int .i64 _]) (by simp [results, Tryz.results15, go_sem, cell_set_same, r0, r1, r2, r3, r4, r5]) rfl ⟨T, (.slice A T.al.length c), rfl, Go.Joins.ownsRow_le (row_set6 HR.out (fun e => by have := (HR.out.lt _ e).1; omega) _ _ _ _ _ _) (by omega), Cur.set6 D9.out.1 (by omega) _ _ _ _ _ _, Keep.set6 D9.out.2.1 (by omega) _ _ _ _ _ _, HO.out⟩
            · rw [h6] at hE
              rw [if_pos rfl] at hE
              have h7 := has_pre h6
              rw [h7] at k7
              have cT : ∀ wx, Cur wx p s i → TkT p wx → _ := fun wx h t => cur_tag_end p s i wx h h6 hs t
              have hi1 := hC.lt
              subst hE
              unfold ConC at cT
              clear h1 h2 h3 h4 h5 h6 h7 hsl
              go_enter Tryz.func15, Tryz.ntmps15
              go_wp2_with fail
              refine (k1 _ D0.out.1).mono ?_
              rintro e w1 ⟨rfl, b1⟩
              have D1 := Lib.hid (D0.out.more b1)
              clear b1
              go_wp2_with fail
              refine (k2 _ D1.out.1).mono ?_
              rintro e w2 ⟨rfl, b2⟩
              have D2 := Lib.hid (D1.out.more b2)
              clear b2
              go_wp2_with fail
              refine (k3 _ D2.out.1).mono ?_
              rintro e w3 ⟨rfl, b3⟩
              have D3 := Lib.hid (D2.out.more b3)
              clear b3
              go_wp2_with fail
              refine (k4 _ D3.out.1).mono ?_
              rintro e w4 ⟨rfl, b4⟩
              have D4 := Lib.hid (D3.out.more b4)
              clear b4
              go_wp2_with fail
              refine (k5 _ D4.out.1).mono ?_
              rintro e w5 ⟨rfl, b5⟩
              have D5 := Lib.hid (D4.out.more b5)
              clear b5
              go_wp2_with fail
              refine (k7 _ D5.out.1).mono ?_
              rintro e w8 ⟨rfl, b8⟩
              have D8 := Lib.hid (D5.out.more b8)
              clear b8
              have t8 := hT.keep D8.out.2.1
              go_wp2_with fail
              refine (cT _ D8.out.1 t8).mono ?_
              rintro e w9 ⟨T, v, rfl, hrow, c9, k9, hor⟩
              have hb1 := D8.out.2.2.1.lt
              have D9 := Lib.hid (D8.out.step c9 k9)
              obtain ⟨A, c, rfl⟩ := own_form hrow
              have HR := Lib.hid (Go.Joins.ownsRow_le hrow (show w.heap.size + 1 ≤ w8.heap.size by omega))
              have HO := Lib.hid hor
              clear c9 k9 hor hrow t8
              unfold tokVal
              obtain ⟨⟨r0, r1, r2, r3, r4, r5⟩, f0, f1, f2, f3, f4, f5⟩ := Blk.six D9.out.2.2.1
              go_wp2
              exact bodyPost_ret (v := .tuple #[(.agg #[.int .i64 T.kind, .string (ofBytes T.nm), .slice A T.al.length c, .bool T.em, .string (ofBytes T.tx), .int .i64 T.at']), .int .i64 _]) (by simp [results, Tryz.results15, go_sem, cell_set_same, r0, r1, r2, r3, r4, r5]) rfl ⟨T, (.slice A T.al.length c), rfl, Go.Joins.ownsRow_le (row_set6 HR.out (fun e => by have := (HR.out.lt _ e).1; omega) _ _ _ _ _ _) (by omega), Cur.set6 D9.out.1 (by omega) _ _ _ _ _ _, Keep.set6 D9.out.2.1 (by omega) _ _ _ _ _ _, HO.out⟩
          · rw [h5] at hE k5
            rw [if_pos rfl] at hE
            subst hE
            clear h1 h2 h3 h4 h5 hsl
            go_enter Tryz.func15, Tryz.ntmps15
            go_wp2_with fail
            refine (k1 _ D0.out.1).mono ?_
            rintro e w1 ⟨rfl, b1⟩
            have D1 := Lib.hid (D0.out.more b1)
            clear b1
            go_wp2_with fail
            refine (k2 _ D1.out.1).mono ?_
            rintro e w2 ⟨rfl, b2⟩
            have D2 := Lib.hid (D1.out.more b2)
            clear b2
            go_wp2_with fail
            refine (k3 _ D2.out.1).mono ?_
            rintro e w3 ⟨rfl, b3⟩
            have D3 := Lib.hid (D2.out.more b3)
            clear b3
            go_wp2_with fail
            refine (k4 _ D3.out.1).mono ?_
            rintro e w4 ⟨rfl, b4⟩
            have D4 := Lib.hid (D3.out.more b4)
            clear b4
            go_wp2_with fail
            refine (k5 _ D4.out.1).mono ?_
            rintro e w5 ⟨rfl, b5⟩
            have D5 := Lib.hid (D4.out.more b5)
            clear b5
            obtain ⟨⟨r0, r1, r2, r3, r4, r5⟩, f0, f1, f2, f3, f4, f5⟩ := Blk.six D5.out.2.2.1
            go_wp2
            exact bodyPost_ret (v := .tuple #[(.agg #[.int .i64 0, .string ⟨#[]⟩, .slice none 0 0, .bool false, .string ⟨#[]⟩, .int .i64 0]), .int .i64 7]) (by simp [results, Tryz.results15, go_sem, cell_set_same, r0, r1, r2, r3, r4, r5]) rfl ⟨tokZ, _, rfl, World.ownsRow_nil _ _ _ _, Cur.set6 D5.out.1 (by omega) _ _ _ _ _ _, Keep.set6 D5.out.2.1 (by omega) _ _ _ _ _ _, fun h => absurd (show (7 : Int) = 0 from h) (by decide)⟩
        · rw [h4] at hE k4
          rw [if_pos rfl] at hE
          subst hE
          clear h1 h2 h3 h4 hsl
          go_enter Tryz.func15, Tryz.ntmps15
          go_wp2_with fail
          refine (k1 _ D0.out.1).mono ?_
          rintro e w1 ⟨rfl, b1⟩
          have D1 := Lib.hid (D0.out.more b1)
          clear b1
          go_wp2_with fail
          refine (k2 _ D1.out.1).mono ?_
          rintro e w2 ⟨rfl, b2⟩
          have D2 := Lib.hid (D1.out.more b2)
          clear b2
          go_wp2_with fail
          refine (k3 _ D2.out.1).mono ?_
          rintro e w3 ⟨rfl, b3⟩
          have D3 := Lib.hid (D2.out.more b3)
          clear b3
          go_wp2_with fail
          refine (k4 _ D3.out.1).mono ?_
          rintro e w4 ⟨rfl, b4⟩
          have D4 := Lib.hid (D3.out.more b4)
          clear b4
          obtain ⟨⟨r0, r1, r2, r3, r4, r5⟩, f0, f1, f2, f3, f4, f5⟩ := Blk.six D4.out.2.2.1
          go_wp2
          exact bodyPost_ret (v := .tuple #[(.agg #[.int .i64 0, .string ⟨#[]⟩, .slice none 0 0, .bool false, .string ⟨#[]⟩, .int .i64 0]), .int .i64 11]) (by simp [results, Tryz.results15, go_sem, cell_set_same, r0, r1, r2, r3, r4, r5]) rfl ⟨tokZ, _, rfl, World.ownsRow_nil _ _ _ _, Cur.set6 D4.out.1 (by omega) _ _ _ _ _ _, Keep.set6 D4.out.2.1 (by omega) _ _ _ _ _ _, fun h => absurd (show (11 : Int) = 0 from h) (by decide)⟩
      · rw [h3] at hE k3
        rw [if_pos rfl] at hE
        have hi1 := hasP_len h3 (by decide)
        rw [hsl] at hi1
        simp only [List.length_cons, List.length_nil] at hi1
        have cS : ∀ wx, Cur wx p s i → TkT p wx → _ := fun wx h t => cur_sect p s ⟨#[60, 33, 91, 67, 68, 65, 84, 65, 91]⟩ ⟨#[93, 93, 62]⟩ i wx h (by rw [show (⟨#[60, 33, 91, 67, 68, 65, 84, 65, 91]⟩ : ByteArray).size = 9 from rfl]; omega) hs (by decide) (by decide) (by decide) t
        rw [show (⟨#[60, 33, 91, 67, 68, 65, 84, 65, 91]⟩ : ByteArray).size = 9 from rfl, show (⟨#[93, 93, 62]⟩ : ByteArray).data.toList = [93, 93, 62] from rfl, show (⟨#[93, 93, 62]⟩ : ByteArray).size = 3 from rfl] at cS
        unfold cdataP at hE
        have q0 := hC.c1
        generalize skipP s.data.toList i 9 [93, 93, 62] = sk at *
        obtain ⟨x1, x2⟩ := sk
        simp only at cS hE
        have hp1 : CP.2.1 = x1 := by rw [← hE]; split <;> rfl
        have hp2 : CP.2.2 = x2 := by
          rw [← hE]; split
          · rfl
          · rename_i h; simp at h; exact h.symm
        have hp3 : x2 = 0 → CP.1 = tokT (linesP ((s.data.toList.drop (i + 9)).take (x1.toNat - 3 - (i + 9)))) i := fun h => by rw [← hE, if_neg (by simpa using h)]
        have HP1 := Lib.hid hp1
        have HP2 := Lib.hid hp2
        have HP3 := Lib.hid hp3
        clear h1 h2 h3 hsl hi1 hE hp1 hp2 hp3
        go_enter Tryz.func15, Tryz.ntmps15
        go_wp2_with fail
        refine (k1 _ D0.out.1).mono ?_
        rintro e w1 ⟨rfl, b1⟩
        have D1 := Lib.hid (D0.out.more b1)
        clear b1
        go_wp2_with fail
        refine (k2 _ D1.out.1).mono ?_
        rintro e w2 ⟨rfl, b2⟩
        have D2 := Lib.hid (D1.out.more b2)
        clear b2
        go_wp2_with fail
        refine (k3 _ D2.out.1).mono ?_
        rintro e w8 ⟨rfl, b8⟩
        have D8 := Lib.hid (D2.out.more b8)
        clear b8
        have t8 := hT.keep D8.out.2.1
        have q8 := D8.out.1.c1
        go_wp2_with fail
        refine (cS _ D8.out.1 t8).mono ?_
        rintro e w9 ⟨⟨x, rfl, hxz, hxe⟩, c9, k9⟩
        have D9 := Lib.hid (D8.out.step c9 k9)
        have HX := Lib.hid hxe
        have t9 := (hT.keep D9.out.2.1).tabs
        clear c9 k9 t8 q8 hxe
        go_wp2_with fail
        refine (tok_lineEnds x _ hxz t9).mono ?_
        rintro e w10 ⟨rfl, b10⟩
        have D10 := Lib.hid (D9.out.more b10)
        clear b10 t9
        obtain ⟨⟨r0, r1, r2, r3, r4, r5⟩, f0, f1, f2, f3, f4, f5⟩ := Blk.six D10.out.2.2.1
        go_wp2
        exact bodyPost_ret (v := .tuple #[.agg #[.int .i64 3, .string ⟨#[]⟩, .slice none 0 0, .bool false, .string (ofBytes (linesP x.data.toList)), .int .i64 (i : Int)], .int .i64 x2]) (by simp [results, Tryz.results15, go_sem, cell_set_same, r0, r1, r2, r3, r4, r5]) rfl ⟨tokT (linesP x.data.toList) i, .slice none 0 0, (by rw [HP2.out]; rfl), World.ownsRow_nil _ _ _ _, (by rw [HP1.out]; exact Cur.set6 D10.out.1 (by omega) _ _ _ _ _ _), Keep.set6 D10.out.2.1 (by omega) _ _ _ _ _ _, fun h => .inl (by rw [HP3.out (HP2.out.symm.trans h), HX.out (HP2.out.symm.trans h), ofBytes_list])⟩
    · rw [h2] at hE k2
      rw [if_pos rfl] at hE
      have hi1 := hasP_len h2 (by decide)
      rw [hsl] at hi1
      simp only [List.length_cons, List.length_nil] at hi1
      have cS : ∀ wx, Cur wx p s i → TkT p wx → _ := fun wx h t => cur_sect p s ⟨#[60, 33, 45, 45]⟩ ⟨#[45, 45, 62]⟩ i wx h (by rw [show (⟨#[60, 33, 45, 45]⟩ : ByteArray).size = 4 from rfl]; omega) hs (by decide) (by decide) (by decide) t
      rw [show (⟨#[60, 33, 45, 45]⟩ : ByteArray).size = 4 from rfl, show (⟨#[45, 45, 62]⟩ : ByteArray).data.toList = [45, 45, 62] from rfl] at cS
      generalize skipP s.data.toList i 4 [45, 45, 62] = sk at *
      obtain ⟨x1, x2⟩ := sk
      subst hE
      simp only at cS
      clear h1 h2 hsl hi1
      go_enter Tryz.func15, Tryz.ntmps15
      go_wp2_with fail
      refine (k1 _ D0.out.1).mono ?_
      rintro e w1 ⟨rfl, b1⟩
      have D1 := Lib.hid (D0.out.more b1)
      clear b1
      go_wp2_with fail
      refine (k2 _ D1.out.1).mono ?_
      rintro e w8 ⟨rfl, b8⟩
      have D8 := Lib.hid (D1.out.more b8)
      clear b8
      have t8 := hT.keep D8.out.2.1
      go_wp2_with fail
      refine (cS _ D8.out.1 t8).mono ?_
      rintro e w9 ⟨⟨x, rfl, _, _⟩, c9, k9⟩
      have D9 := Lib.hid (D8.out.step c9 k9)
      clear c9 k9 t8
      obtain ⟨⟨r0, r1, r2, r3, r4, r5⟩, f0, f1, f2, f3, f4, f5⟩ := Blk.six D9.out.2.2.1
      go_wp2
      exact bodyPost_ret (v := .tuple #[(.agg #[.int .i64 0, .string ⟨#[]⟩, .slice none 0 0, .bool false, .string ⟨#[]⟩, .int .i64 0]), .int .i64 x2]) (by simp [results, Tryz.results15, go_sem, cell_set_same, r0, r1, r2, r3, r4, r5]) rfl ⟨tokZ, _, rfl, World.ownsRow_nil _ _ _ _, Cur.set6 D9.out.1 (by omega) _ _ _ _ _ _, Keep.set6 D9.out.2.1 (by omega) _ _ _ _ _ _, fun _ => .inr ⟨rfl, rfl, rfl, rfl⟩⟩
  · rw [h1] at hE k1
    rw [if_pos rfl] at hE
    have hi1 := hasP_len h1 (by decide)
    rw [hsl] at hi1
    simp only [List.length_cons, List.length_nil] at hi1
    have cS : ∀ wx, Cur wx p s i → TkT p wx → _ := fun wx h t => cur_sect p s ⟨#[60, 63]⟩ ⟨#[63, 62]⟩ i wx h (by rw [show (⟨#[60, 63]⟩ : ByteArray).size = 2 from rfl]; omega) hs (by decide) (by decide) (by decide) t
    rw [show (⟨#[60, 63]⟩ : ByteArray).size = 2 from rfl, show (⟨#[63, 62]⟩ : ByteArray).data.toList = [63, 62] from rfl] at cS
    generalize skipP s.data.toList i 2 [63, 62] = sk at *
    obtain ⟨x1, x2⟩ := sk
    subst hE
    simp only at cS
    clear h1 hsl hi1
    go_enter Tryz.func15, Tryz.ntmps15
    go_wp2_with fail
    refine (k1 _ D0.out.1).mono ?_
    rintro e w8 ⟨rfl, b8⟩
    have D8 := Lib.hid (D0.out.more b8)
    clear b8
    have t8 := hT.keep D8.out.2.1
    go_wp2_with fail
    refine (cS _ D8.out.1 t8).mono ?_
    rintro e w9 ⟨⟨x, rfl, _, _⟩, c9, k9⟩
    have D9 := Lib.hid (D8.out.step c9 k9)
    clear c9 k9 t8
    obtain ⟨⟨r0, r1, r2, r3, r4, r5⟩, f0, f1, f2, f3, f4, f5⟩ := Blk.six D9.out.2.2.1
    go_wp2
    exact bodyPost_ret (v := .tuple #[(.agg #[.int .i64 0, .string ⟨#[]⟩, .slice none 0 0, .bool false, .string ⟨#[]⟩, .int .i64 0]), .int .i64 x2]) (by simp [results, Tryz.results15, go_sem, cell_set_same, r0, r1, r2, r3, r4, r5]) rfl ⟨tokZ, _, rfl, World.ownsRow_nil _ _ _ _, Cur.set6 D9.out.1 (by omega) _ _ _ _ _ _, Keep.set6 D9.out.2.1 (by omega) _ _ _ _ _ _, fun _ => .inr ⟨rfl, rfl, rfl, rfl⟩⟩
end
section
open Go.RowKit

/-- What a call of the code's Tokens gives. -/
def TokIs (w0 : World) (R : List TokD × Int × Int) (e : Ending) (w' : World) : Prop := ∃ p c, e = .returned (.tuple #[.slice p R.1.length c, .int .i64 R.2.1, .int .i64 R.2.2]) ∧ TokensAt w' p R.1 ∧ Below w0.heap.size w0 w'
/-- Two worlds that hold the same in all blocks from B on that the first one has. -/
def TokKeeps (B : Nat) (w w' : World) : Prop := ∀ b, B ≤ b → b < w.heap.size → w'.heap[b]? = w.heap[b]?
/-- The same, and what it gives lies in memory that the call itself has made. -/
def TokIsN (w0 : World) (R : List TokD × Int × Int) (e : Ending) (w' : World) : Prop := ∃ p c, e = .returned (.tuple #[.slice p R.1.length c, .int .i64 R.2.1, .int .i64 R.2.2]) ∧ (∀ w'', TokKeeps w0.heap.size w' w'' → TokensAt w'' p R.1) ∧ Below w0.heap.size w0 w'
/-- A row of the code's tokens that is owned, each with a row of attributes that is owned. -/
def TokRowX (w : World) (B : Nat) (v : Value) (ps : List (TokD × Value)) : Prop := w.ownsRow B 38 6 v ps.length (toksCells ps) ∧ ∀ p ∈ ps, w.ownsRow B 37 4 p.2 p.1.al.length (attrsCells p.1.al)
theorem row_same {B B' : Nat} {e : TypeId} {k : Nat} {v : Value} {n : Nat} {xs : List Value} {w w' : World} (h : w.ownsRow B e k v n xs) (hB : B' ≤ B) (hk : TokKeeps B' w w') : w'.ownsRow B e k v n xs := by
  obtain ⟨h1, h2⟩ := h
  refine ⟨h1, ?_⟩
  rcases h2 with h2 | ⟨g, cap, cur, hv, hg, hh, r⟩
  · exact .inl h2
  · exact .inr ⟨g, cap, cur, hv, hg, (hk g (by omega) (Array.getElem?_eq_some_iff.1 hh).1).trans hh, r⟩
theorem TokRowX.keeps {w w' : World} {B' : Nat} {v : Value} {ps : List (TokD × Value)} (h : TokRowX w B' v ps) {B : Nat} (hB : B ≤ B') (hk : TokKeeps B w w') : TokRowX w' B' v ps := ⟨row_same h.1 hB hk, fun p hp => row_same (h.2 p hp) hB hk⟩
theorem tokens_of_rowX {w : World} {B : Nat} {A : Option Addr} {n c : Nat} {ps : List (TokD × Value)} (h : TokRowX w B (.slice A n c) ps) : n = ps.length ∧ TokensAt w A (ps.map Prod.fst) := by
  obtain ⟨h1, h2⟩ := h
  obtain ⟨A', c', he⟩ := own_form h1
  injection he with e1 e2 e3
  refine ⟨e2, fun i hi => ?_⟩
  rw [List.length_map] at hi
  have hc := fun g => h1.cells (g := g)
  rcases h1.2 with ⟨h0, h00⟩ | ⟨g, cap, cur, hv, _⟩
  · omega
  · injection hv with hA
    subst hA
    have hk : ∀ k v, k < 6 → (tokCells ps[i])[k]? = some v → w.cell? (((⟨g, 0, none⟩ : Addr).add (i * 6)).add k) = some v := by
      intro k v hk hv
      rw [addr_add2, ← addr_add]
      exact hc g rfl (i * 6 + k) v (by rw [toksCells_at ps i hi k hk]; exact hv)
    have hrow := h2 ps[i] (List.getElem_mem _)
    obtain ⟨A2, c2, ha⟩ := own_form hrow
    have g0 := hk 0 _ (by omega) rfl
    rw [addr_add2, Nat.add_zero, ← addr_add] at g0
    have g2 := hk 2 _ (by omega) rfl
    rw [ha] at hrow
    simp only [List.getElem_map]
    refine ⟨_, A2, c2, rfl, ⟨g0, hk 1 _ (by omega) rfl, ?_, hk 3 _ (by omega) rfl, hk 4 _ (by omega) rfl, hk 5 _ (by omega) rfl⟩, attrs_of_row hrow⟩
    rw [g2, ha]
theorem kinfo_tokx : (Tryz.prog.info? 38).map (fun i => (i.zero, i.size, i.bytes)) = some (some (.agg #[.int .i64 0, .string ⟨#[]⟩, .slice none 0 0, .bool false, .string ⟨#[]⟩, .int .i64 0]), 6, 80) := by kernel_rfl
theorem tokx_apart : (37 : TypeId) ≠ 38 := by decide
theorem consP_kind (s : ByteArray) (i : Nat) (h : (consP s i).2.2 = 0) : (consP s i).1.kind = 1 ∨ (consP s i).1.kind = 2 ∨ (consP s i).1.kind = 3 := by
  unfold consP at *
  split
  · exact .inr (.inr rfl)
  · rename_i h1
    rw [if_neg h1] at h
    split
    · exact .inr (.inr rfl)
    · rename_i h2
      rw [if_neg h2] at h
      split
      · rename_i h3
        rw [if_pos h3] at h
        unfold cdataP at *
        split
        · rename_i h4
          rw [if_pos h4] at h
          exact absurd h h4
        · exact .inr (.inr rfl)
      · rename_i h3
        rw [if_neg h3] at h
        split
        · rename_i h4
          rw [if_pos h4] at h
          exact absurd (show (11 : Int) = 0 from h) (by decide)
        · rename_i h4
          rw [if_neg h4] at h
          split
          · rename_i h5
            rw [if_pos h5] at h
            exact absurd (show (7 : Int) = 0 from h) (by decide)
          · split
            · exact .inr (.inl rfl)
            · split
              · exact .inl rfl
              · exact .inr (.inr rfl)
/-- A construct's token is kept, or it has neither kind nor text, or no text. -/
theorem cons_cases (s : ByteArray) (i : Nat) : ∀ T : TokD, (consP s i).2.2 = 0 → (T = (consP s i).1 ∨ (T.kind = 0 ∧ T.tx = [] ∧ (consP s i).1.kind = 3 ∧ (consP s i).1.tx = [])) → (T = (consP s i).1 ∧ (T.kind = 1 ∨ T.kind = 2 ∨ (T.kind = 3 ∧ T.tx ≠ []))) ∨ ((T.kind = 3 ∨ T.kind = 0) ∧ T.tx = [] ∧ (consP s i).1.kind = 3 ∧ (consP s i).1.tx = []) := by
  intro T h hor
  rcases hor with rfl | ⟨h1, h2, h3, h4⟩
  · rcases consP_kind s i h with hk | hk | hk
    · exact .inl ⟨rfl, .inl hk⟩
    · exact .inl ⟨rfl, .inr (.inl hk)⟩
    · by_cases ht : (consP s i).1.tx = []
      · exact .inr ⟨.inl hk, ht, hk, ht⟩
      · exact .inl ⟨rfl, .inr (.inr ⟨hk, ht⟩)⟩
  · exact .inr ⟨.inr h1, h2, h3, h4⟩
/-- Within Tokens: the cursor, the row of tokens. -/
def TV (wA wx : World) (p : Nat) (s : ByteArray) (k : Int) (v : Value) (ps : List (TokD × Value)) : Prop := (Cur wx p s k ∧ Keep p wA wx) ∧ TokRowX wx (p + 1) v ps
theorem TV.step {wA wx wy : World} {p : Nat} {s : ByteArray} {k k' : Int} {v : Value} {ps : List (TokD × Value)} (h : TV wA wx p s k v ps) (c : Cur wy p s k') (q : Keep p wx wy) : TV wA wy p s k' v ps := ⟨⟨c, h.1.2.trans q⟩, q.row h.2.1 (by omega), fun x hx => q.row (h.2.2 x hx) (by omega)⟩
theorem TV.more {wA wx wy : World} {p : Nat} {s : ByteArray} {k : Int} {v : Value} {ps : List (TokD × Value)} (h : TV wA wx p s k v ps) (b : Below wx.heap.size wx wy) : TV wA wy p s k v ps := h.step (h.1.1.keep b) (Keep.of b)
theorem TV.push {wA w4 w7 : World} {p : Nat} {s : ByteArray} {k : Int} {A A' A2 : Option Addr} {c c' c2 : Nat} {ps : List (TokD × Value)} {o1 o2 : Obj} (_hp : p < wA.heap.size) (hpA : wA.heap.size ≤ p + 1) (T : TokD) (hR : w4.ownsRow (p + 1) 37 4 (.slice A2 T.al.length c2) T.al.length (attrsCells T.al)) (_D4 : TV wA w4 p s k (.slice A ps.length c) ps) (D5 : TV wA (w4.alloc o1) p s k (.slice A ps.length c) ps) (hgr : ((w4.alloc o1).alloc o2).grownBy w7 (Value.slice A ps.length c).ownBlock) (hown : w7.ownsRow (p + 1) 38 6 (.slice A' (ps.length + 1) c') (ps.length + 1) (toksCells ps ++ tokCells (T, Value.slice A2 T.al.length c2))) : TV wA w7 p s k (.slice A' (ps ++ [(T, Value.slice A2 T.al.length c2)]).length c') (ps ++ [(T, Value.slice A2 T.al.length c2)]) := by
  have D6 := D5.more ((Below.refl _ _).alloc (Nat.le_refl _) o2)
  have hR6 := row_below (row_below hR ((Below.refl _ _).alloc (Nat.le_refl _) o1)) ((Below.refl _ _).alloc (Nat.le_refl _) o2)
  have hlt := fun g => D6.2.1.lt g
  refine ⟨⟨?_, D6.1.2.grown hgr (fun g hg => by have := (hlt g hg).1; omega)⟩, ?_, ?_⟩
  · exact (hgr.block p D6.1.1.lt (fun e => by have := (hlt _ e.symm).1; omega)).trans D6.1.1
  · rw [List.length_append, toksCells_app, show toksCells [(T, Value.slice A2 T.al.length c2)] = tokCells (T, Value.slice A2 T.al.length c2) by simp [toksCells]]
    exact hown
  · intro q hq
    have h6 : ((w4.alloc o1).alloc o2).ownsRow (p + 1) 37 4 q.2 q.1.al.length (attrsCells q.1.al) := by
      rcases List.mem_append.1 hq with h | h
      · exact D6.2.2 q h
      · rw [List.mem_singleton.1 h]; exact hR6
    exact h6.kept hgr (rows_apart h6 D6.2.1 tokx_apart)
theorem tok_IsQName (s : ByteArray) (w : World) (hs : s.size ≤ 100000) (hT : TokT w) : Calls Tryz.prog 11 #[.string s] w fun e w' => e = .returned (.bool (isQB s)) ∧ Below w.heap.size w w' := tok_qname s w (by omega) hT.1
set_option maxRecDepth 100000 in
set_option maxHeartbeats 16000000 in
theorem tok_TokensN (s : ByteArray) (w : World) (hs' : s.size ≤ 100000) (hT : TokT w) : Calls Tryz.prog 6 #[.string s] w fun e w' => TokIsN w (toksP s) e w' := by
  obtain ⟨i0, hi0, hi1, hi3, hi4⟩ := info_parts kinfo_tokx
  have hs : s.size ≤ 1000000 := by omega
  have hsl : s.data.toList.length = s.size := by simp
  have cK : ∀ _u : Unit, _ := fun _ => text_Check s w (by unfold maxLen; omega) hT.1
  have hE : toksP s = if (chk s).2 ≠ 0 then ([], ((chk s).1 : Int), ((chk s).2 : Int)) else tokGo s (s.size + 1) (if hasP s.data.toList 0 [239, 187, 191] then 3 else 0) [] := rfl
  unfold TokIsN
  generalize toksP s = TP at *
  generalize chk s = ck at *
  obtain ⟨k1, k2⟩ := ck
  simp only at cK hE
  by_cases hk : k2 = 0
  · rw [if_neg (by simpa using hk)] at hE
    subst hk
    rw [show ((0 : Nat) : Int) = 0 from rfl] at cK
    rcases hB : hasP s.data.toList 0 [239, 187, 191] with _ | _
    · rw [hB] at hE
      rw [if_neg (show ¬ (false = true) by decide)] at hE
      have hq3 : 0 ≤ s.size := Nat.zero_le _
      have cN : ∀ p wx, Cur wx p s 0 → _ := fun p wx h => cur_skip_no p s ⟨#[239, 187, 191]⟩ 0 wx h (by omega) hB
      clear hB hsl
      go_enter Tryz.func6, Tryz.ntmps6
      go_wp2_with fail
      refine (cK ()).mono ?_
      rintro e w1 ⟨rfl, b1⟩
      have hC0 := Cur.new w1 s
      have hT0 : TkT w1.heap.size (w1.alloc (.cells #[.string s, .int .i64 0] 42)) := ⟨w, hT, b1.size, b1.alloc b1.size _⟩
      have hBA : Below w.heap.size w (w1.alloc (.cells #[.string s, .int .i64 0] 42)) := b1.alloc b1.size _
      have hz1 : (w1.alloc (.cells #[.string s, .int .i64 0] 42)).heap.size = w1.heap.size + 1 := by simp
      have hbs := b1.size
      have HC0 := Lib.hid hC0
      have HT0 := Lib.hid hT0
      have HBA := Lib.hid hBA
      clear hC0 hT0 hBA b1 hT cK
      go_wp2_with fail
      generalize w1.alloc (.cells #[.string s, .int .i64 0] 42) = wA at *
      generalize w1.heap.size = p at *
      refine (cN p _ HC0.out).mono ?_
      rintro e w2 ⟨rfl, b2⟩
      have D2 := Lib.hid (show TV wA w2 p s 0 (.slice none 0 0) [] from ⟨⟨HC0.out.keep b2, Keep.of b2⟩, World.ownsRow_nil _ _ _ _, fun q hq => by cases hq⟩)
      have hp2 : p < wA.heap.size := by omega
      go_wp2
      go_loopw [8] (fun v wr => ∃ (a f : Nat) (ps : List (TokD × Value)) (A : Option Addr) (c : Nat), a ≤ s.size ∧ v = .slice A ps.length c ∧ (TP = tokGo s f a (ps.map Prod.fst) ∧ s.size - a < f) ∧ ps.length ≤ a ∧ TV wA wr p s a (.slice A ps.length c) ps) (fun _ wr => s.size - (intOf ((wr.cell? ⟨p, 1, none⟩).getD (.bool false))).toNat)
      case atStart => exact ⟨0, s.size + 1, [], none, 0, hq3, rfl, ⟨hE, by omega⟩, Nat.zero_le _, D2.out⟩
      case round =>
        clear hE D2
        obtain ⟨a, f, ps, A, c, ha, rfl, ⟨hst, hf⟩, hpl, hD⟩ := hrel
        have M1 := Lib.hid hD.1.1.c1
        obtain ⟨f, rfl⟩ : ∃ g, f = g + 1 := ⟨f - 1, by omega⟩
        rw [tokGo] at hst
        have cE : ∀ wx, Cur wx p s a → _ := fun wx h => cur_ended p s a wx h
        by_cases hlt : a < s.size
        case pos =>
          rw [if_pos hlt] at hst
          rw [show ((a : Int) == (s.size : Int)) = false by rw [beq_eq_false_iff_ne]; omega] at cE
          have cC : ∀ wx, Cur wx p s a → TkT p wx → _ := fun wx h t => cur_construct p s a wx h hlt hs t
          have hok := consP_ok s a hlt
          have hcc := cons_cases s a
          generalize consP s a = cp at *
          obtain ⟨RT, x1, x2⟩ := cp
          unfold ConC at cC
          simp only at hst hok hcc cC
          go_wp2_with fail
          refine (cE _ hD.1.1).mono ?_
          rintro e w3 ⟨rfl, b3⟩
          have D3 := Lib.hid (hD.more b3)
          have t3 := HT0.out.keep D3.out.1.2
          clear b3
          go_wp2_with fail
          refine (cC _ D3.out.1.1 t3).mono ?_
          rintro e w4 ⟨⟨kd, nm, al, em, tx, at'⟩, v, rfl, hrow, c4, k4, hor⟩
          have hw3 := D3.out.1.2.size
          obtain ⟨A2, c2, rfl⟩ := own_form hrow
          simp only at hrow
          have D4 := Lib.hid (D3.out.step c4 k4)
          have HR := Lib.hid (Go.Joins.ownsRow_le hrow (show p + 1 ≤ w3.heap.size by omega))
          have D5 := Lib.hid (D4.out.more ((Below.refl _ _).alloc (Nat.le_refl _) (.cells #[.int .i64 kd, .string (ofBytes nm), .slice A2 al.length c2, .bool em, .string (ofBytes tx), .int .i64 at'] 38)))
          clear c4 k4 t3 hrow
          simp only [tokVal]
          by_cases hx : x2 = 0
          case neg =>
            rw [if_pos hx] at hst
            have HST := Lib.hid hst
            have hxb : (x2 != 0) = true := by simpa using hx
            have q5 := D5.out.1.1.c1
            clear hok hcc hor hst
            go_wp2
            go_quiet (fail)
            go_wp2
            exact bodyPost_ret (v := .tuple #[.slice none 0 0, .int .i64 x1, .int .i64 x2]) (by simp [results, Tryz.results6, go_sem]) rfl ⟨none, 0, (by rw [HST.out]; rfl), (fun w'' _ => by rw [HST.out]; exact fun i h => absurd h (Nat.not_lt_zero _)), below_drewN (D5.out.1.2.below HBA.out (by omega) HBA.out.size) _⟩
          case pos =>
            rw [if_neg (by simpa using hx)] at hst
            obtain ⟨z, rfl, hz2, hz3⟩ := hok hx
            have hcs := hcc _ hx (hor hx)
            subst hx
            rw [Int.toNat_natCast] at hst
            clear hok hcc hor
            rcases hcs with ⟨rfl, hk⟩ | ⟨hk, htx, hk2, htx2⟩
            · simp only at hk hst
              have hst2 : TP = tokGo s f z (ps.map Prod.fst ++ [⟨kd, nm, al, em, tx, at'⟩]) := by
                rw [hst, if_pos]
                rcases hk with h | h | h
                · left; rw [h]; decide
                · left; rw [h]; decide
                · exact .inr h.2
              have HST := Lib.hid hst2
              clear hst hst2
              have hps : ps.length ≤ 1000000 := by omega
              rcases hk with rfl | rfl | ⟨rfl, htx⟩
              · skip
                go_wp2_with (at_builtin; refine wpList_append_own _ rfl (.tmp 47) (.tmp 49) 23 rfl (p + 1) 38 i0 (.agg #[.int .i64 0, .string ⟨#[]⟩, .slice none 0 0, .bool false, .string ⟨#[]⟩, .int .i64 0]) 6 80 Tryz.underlying23 hi0 hi1 hi3 hi4 rfl (by decide) (.slice A ps.length c) ps.length (toksCells ps) rfl (D5.out.2.1.alloc _) ⟨w4.heap.size + 1, 0, none⟩ 1 1 (tokCells (⟨1, nm, al, em, tx, at'⟩, .slice A2 al.length c2)) rfl rfl (tok_new2 _ _ _ (⟨1, nm, al, em, tx, at'⟩, .slice A2 al.length c2)) (tok_one _ _ _ _) (by unfold maxLen; omega) (by omega) (by simp; have := D4.out.1.2.size; omega) ?_; intro v' w7 hown7 hgr7 _; obtain ⟨A', c', rfl⟩ := own_form hown7)
                have D7 := TV.push hp2 (by omega) (⟨1, nm, al, em, tx, at'⟩ : TokD) HR.out D4.out D5.out hgr7 hown7
                exact ⟨⟨z, f, ps ++ [(⟨1, nm, al, em, tx, at'⟩, .slice A2 al.length c2)], A', c', hz3, by simp, ⟨by rw [HST.out, List.map_append]; rfl, by omega⟩, by simp; omega, D7⟩, by rw [D7.1.1.c1, M1.out]; simp [intOf]; omega⟩
              · skip
                go_wp2_with (at_builtin; refine wpList_append_own _ rfl (.tmp 47) (.tmp 49) 23 rfl (p + 1) 38 i0 (.agg #[.int .i64 0, .string ⟨#[]⟩, .slice none 0 0, .bool false, .string ⟨#[]⟩, .int .i64 0]) 6 80 Tryz.underlying23 hi0 hi1 hi3 hi4 rfl (by decide) (.slice A ps.length c) ps.length (toksCells ps) rfl (D5.out.2.1.alloc _) ⟨w4.heap.size + 1, 0, none⟩ 1 1 (tokCells (⟨2, nm, al, em, tx, at'⟩, .slice A2 al.length c2)) rfl rfl (tok_new2 _ _ _ (⟨2, nm, al, em, tx, at'⟩, .slice A2 al.length c2)) (tok_one _ _ _ _) (by unfold maxLen; omega) (by omega) (by simp; have := D4.out.1.2.size; omega) ?_; intro v' w7 hown7 hgr7 _; obtain ⟨A', c', rfl⟩ := own_form hown7)
                have D7 := TV.push hp2 (by omega) (⟨2, nm, al, em, tx, at'⟩ : TokD) HR.out D4.out D5.out hgr7 hown7
                exact ⟨⟨z, f, ps ++ [(⟨2, nm, al, em, tx, at'⟩, .slice A2 al.length c2)], A', c', hz3, by simp, ⟨by rw [HST.out, List.map_append]; rfl, by omega⟩, by simp; omega, D7⟩, by rw [D7.1.1.c1, M1.out]; simp [intOf]; omega⟩
              · obtain ⟨u1, u2⟩ := empty_no htx
                go_wp2_with (at_builtin; refine wpList_append_own _ rfl (.tmp 47) (.tmp 49) 23 rfl (p + 1) 38 i0 (.agg #[.int .i64 0, .string ⟨#[]⟩, .slice none 0 0, .bool false, .string ⟨#[]⟩, .int .i64 0]) 6 80 Tryz.underlying23 hi0 hi1 hi3 hi4 rfl (by decide) (.slice A ps.length c) ps.length (toksCells ps) rfl (D5.out.2.1.alloc _) ⟨w4.heap.size + 1, 0, none⟩ 1 1 (tokCells (⟨3, nm, al, em, tx, at'⟩, .slice A2 al.length c2)) rfl rfl (tok_new2 _ _ _ (⟨3, nm, al, em, tx, at'⟩, .slice A2 al.length c2)) (tok_one _ _ _ _) (by unfold maxLen; omega) (by omega) (by simp; have := D4.out.1.2.size; omega) ?_; intro v' w7 hown7 hgr7 _; obtain ⟨A', c', rfl⟩ := own_form hown7)
                have D7 := TV.push hp2 (by omega) (⟨3, nm, al, em, tx, at'⟩ : TokD) HR.out D4.out D5.out hgr7 hown7
                exact ⟨⟨z, f, ps ++ [(⟨3, nm, al, em, tx, at'⟩, .slice A2 al.length c2)], A', c', hz3, by simp, ⟨by rw [HST.out, List.map_append]; rfl, by omega⟩, by simp; omega, D7⟩, by rw [D7.1.1.c1, M1.out]; simp [intOf]; omega⟩
            · simp only at hk htx
              rw [if_neg (by rintro (h | h) <;> contradiction)] at hst
              have HST := Lib.hid hst
              subst htx
              have u1 : (ofBytes ([] : List UInt8)).toList.isEmpty = true := by rw [ByteArray.toList_eq, ofBytes_list]; rfl
              have u2 : (ofBytes ([] : List UInt8)).toList = [] := by rw [ByteArray.toList_eq, ofBytes_list]
              clear hst hk2 htx2
              rcases hk with rfl | rfl
              · skip
                go_wp2
                go_roundw
                case rel => exact ⟨z, f, ps, A, c, hz3, rfl, ⟨HST.out, by omega⟩, by omega, D5.out⟩
                case measure => rw [D5.out.1.1.c1, M1.out]; simp [intOf]; omega
              · skip
                go_wp2
                go_roundw
                case rel => exact ⟨z, f, ps, A, c, hz3, rfl, ⟨HST.out, by omega⟩, by omega, D5.out⟩
                case measure => rw [D5.out.1.1.c1, M1.out]; simp [intOf]; omega
        case neg =>
          obtain rfl : a = s.size := by omega
          rw [if_neg hlt] at hst
          have HST := Lib.hid hst
          rw [show ((s.size : Int) == (s.size : Int)) = true by simp] at cE
          clear hst
          go_wp2_with fail
          refine (cE _ hD.1.1).mono ?_
          rintro e w3 ⟨rfl, b3⟩
          have D3 := Lib.hid (hD.more b3)
          have q5 := D3.out.1.1.c1
          clear b3
          go_wp2
          go_quiet (fail)
          go_wp2
          exact bodyPost_ret (v := .tuple #[.slice A ps.length c, .int .i64 s.size, .int .i64 0]) (by simp [results, Tryz.results6, go_sem]) rfl ⟨A, c, (by rw [HST.out]; simp only [List.length_map]), (fun w'' hk => by rw [HST.out]; exact (tokens_of_rowX (TokRowX.keeps D3.out.2 (B := w.heap.size) (by omega) hk)).2), below_drewN (D3.out.1.2.below HBA.out (by omega) HBA.out.size) _⟩
    · rw [hB] at hE
      rw [if_pos (show true = true from rfl)] at hE
      have hq3 : 3 ≤ s.size := by
        have := hasP_len (i := 0) hB (by decide)
        rw [hsl] at this
        simpa using this
      have cY : ∀ p wx, Cur wx p s 0 → _ := fun p wx h => cur_skip_yes p s ⟨#[239, 187, 191]⟩ 0 wx h (by omega) hs (by decide) hB
      clear hB hsl
      go_enter Tryz.func6, Tryz.ntmps6
      go_wp2_with fail
      refine (cK ()).mono ?_
      rintro e w1 ⟨rfl, b1⟩
      have hC0 := Cur.new w1 s
      have hT0 : TkT w1.heap.size (w1.alloc (.cells #[.string s, .int .i64 0] 42)) := ⟨w, hT, b1.size, b1.alloc b1.size _⟩
      have hBA : Below w.heap.size w (w1.alloc (.cells #[.string s, .int .i64 0] 42)) := b1.alloc b1.size _
      have hz1 : (w1.alloc (.cells #[.string s, .int .i64 0] 42)).heap.size = w1.heap.size + 1 := by simp
      have hbs := b1.size
      have HC0 := Lib.hid hC0
      have HT0 := Lib.hid hT0
      have HBA := Lib.hid hBA
      clear hC0 hT0 hBA b1 hT cK
      go_wp2_with fail
      generalize w1.alloc (.cells #[.string s, .int .i64 0] 42) = wA at *
      generalize w1.heap.size = p at *
      refine (cY p _ HC0.out).mono ?_
      rintro e w2 ⟨rfl, c2, k2⟩
      have D2 := Lib.hid (show TV wA w2 p s 3 (.slice none 0 0) [] from ⟨⟨c2, k2⟩, World.ownsRow_nil _ _ _ _, fun q hq => by cases hq⟩)
      have hp2 : p < wA.heap.size := by omega
      go_wp2
      go_loopw [8] (fun v wr => ∃ (a f : Nat) (ps : List (TokD × Value)) (A : Option Addr) (c : Nat), a ≤ s.size ∧ v = .slice A ps.length c ∧ (TP = tokGo s f a (ps.map Prod.fst) ∧ s.size - a < f) ∧ ps.length ≤ a ∧ TV wA wr p s a (.slice A ps.length c) ps) (fun _ wr => s.size - (intOf ((wr.cell? ⟨p, 1, none⟩).getD (.bool false))).toNat)
      case atStart => exact ⟨3, s.size + 1, [], none, 0, hq3, rfl, ⟨hE, by omega⟩, Nat.zero_le _, D2.out⟩
      case round =>
        clear hE D2
        obtain ⟨a, f, ps, A, c, ha, rfl, ⟨hst, hf⟩, hpl, hD⟩ := hrel
        have M1 := Lib.hid hD.1.1.c1
        obtain ⟨f, rfl⟩ : ∃ g, f = g + 1 := ⟨f - 1, by omega⟩
        rw [tokGo] at hst
        have cE : ∀ wx, Cur wx p s a → _ := fun wx h => cur_ended p s a wx h
        by_cases hlt : a < s.size
        case pos =>
          rw [if_pos hlt] at hst
          rw [show ((a : Int) == (s.size : Int)) = false by rw [beq_eq_false_iff_ne]; omega] at cE
          have cC : ∀ wx, Cur wx p s a → TkT p wx → _ := fun wx h t => cur_construct p s a wx h hlt hs t
          have hok := consP_ok s a hlt
          have hcc := cons_cases s a
          generalize consP s a = cp at *
          obtain ⟨RT, x1, x2⟩ := cp
          unfold ConC at cC
          simp only at hst hok hcc cC
          go_wp2_with fail
          refine (cE _ hD.1.1).mono ?_
          rintro e w3 ⟨rfl, b3⟩
          have D3 := Lib.hid (hD.more b3)
          have t3 := HT0.out.keep D3.out.1.2
          clear b3
          go_wp2_with fail
          refine (cC _ D3.out.1.1 t3).mono ?_
          rintro e w4 ⟨⟨kd, nm, al, em, tx, at'⟩, v, rfl, hrow, c4, k4, hor⟩
          have hw3 := D3.out.1.2.size
          obtain ⟨A2, c2, rfl⟩ := own_form hrow
          simp only at hrow
          have D4 := Lib.hid (D3.out.step c4 k4)
          have HR := Lib.hid (Go.Joins.ownsRow_le hrow (show p + 1 ≤ w3.heap.size by omega))
          have D5 := Lib.hid (D4.out.more ((Below.refl _ _).alloc (Nat.le_refl _) (.cells #[.int .i64 kd, .string (ofBytes nm), .slice A2 al.length c2, .bool em, .string (ofBytes tx), .int .i64 at'] 38)))
          clear c4 k4 t3 hrow
          simp only [tokVal]
          by_cases hx : x2 = 0
          case neg =>
            rw [if_pos hx] at hst
            have HST := Lib.hid hst
            have hxb : (x2 != 0) = true := by simpa using hx
            have q5 := D5.out.1.1.c1
            clear hok hcc hor hst
            go_wp2
            go_quiet (fail)
            go_wp2
            exact bodyPost_ret (v := .tuple #[.slice none 0 0, .int .i64 x1, .int .i64 x2]) (by simp [results, Tryz.results6, go_sem]) rfl ⟨none, 0, (by rw [HST.out]; rfl), (fun w'' _ => by rw [HST.out]; exact fun i h => absurd h (Nat.not_lt_zero _)), below_drewN (D5.out.1.2.below HBA.out (by omega) HBA.out.size) _⟩
          case pos =>
            rw [if_neg (by simpa using hx)] at hst
            obtain ⟨z, rfl, hz2, hz3⟩ := hok hx
            have hcs := hcc _ hx (hor hx)
            subst hx
            rw [Int.toNat_natCast] at hst
            clear hok hcc hor
            rcases hcs with ⟨rfl, hk⟩ | ⟨hk, htx, hk2, htx2⟩
            · simp only at hk hst
              have hst2 : TP = tokGo s f z (ps.map Prod.fst ++ [⟨kd, nm, al, em, tx, at'⟩]) := by
                rw [hst, if_pos]
                rcases hk with h | h | h
                · left; rw [h]; decide
                · left; rw [h]; decide
                · exact .inr h.2
              have HST := Lib.hid hst2
              clear hst hst2
              have hps : ps.length ≤ 1000000 := by omega
              rcases hk with rfl | rfl | ⟨rfl, htx⟩
              · skip
                go_wp2_with (at_builtin; refine wpList_append_own _ rfl (.tmp 47) (.tmp 49) 23 rfl (p + 1) 38 i0 (.agg #[.int .i64 0, .string ⟨#[]⟩, .slice none 0 0, .bool false, .string ⟨#[]⟩, .int .i64 0]) 6 80 Tryz.underlying23 hi0 hi1 hi3 hi4 rfl (by decide) (.slice A ps.length c) ps.length (toksCells ps) rfl (D5.out.2.1.alloc _) ⟨w4.heap.size + 1, 0, none⟩ 1 1 (tokCells (⟨1, nm, al, em, tx, at'⟩, .slice A2 al.length c2)) rfl rfl (tok_new2 _ _ _ (⟨1, nm, al, em, tx, at'⟩, .slice A2 al.length c2)) (tok_one _ _ _ _) (by unfold maxLen; omega) (by omega) (by simp; have := D4.out.1.2.size; omega) ?_; intro v' w7 hown7 hgr7 _; obtain ⟨A', c', rfl⟩ := own_form hown7)
                have D7 := TV.push hp2 (by omega) (⟨1, nm, al, em, tx, at'⟩ : TokD) HR.out D4.out D5.out hgr7 hown7
                exact ⟨⟨z, f, ps ++ [(⟨1, nm, al, em, tx, at'⟩, .slice A2 al.length c2)], A', c', hz3, by simp, ⟨by rw [HST.out, List.map_append]; rfl, by omega⟩, by simp; omega, D7⟩, by rw [D7.1.1.c1, M1.out]; simp [intOf]; omega⟩
              · skip
                go_wp2_with (at_builtin; refine wpList_append_own _ rfl (.tmp 47) (.tmp 49) 23 rfl (p + 1) 38 i0 (.agg #[.int .i64 0, .string ⟨#[]⟩, .slice none 0 0, .bool false, .string ⟨#[]⟩, .int .i64 0]) 6 80 Tryz.underlying23 hi0 hi1 hi3 hi4 rfl (by decide) (.slice A ps.length c) ps.length (toksCells ps) rfl (D5.out.2.1.alloc _) ⟨w4.heap.size + 1, 0, none⟩ 1 1 (tokCells (⟨2, nm, al, em, tx, at'⟩, .slice A2 al.length c2)) rfl rfl (tok_new2 _ _ _ (⟨2, nm, al, em, tx, at'⟩, .slice A2 al.length c2)) (tok_one _ _ _ _) (by unfold maxLen; omega) (by omega) (by simp; have := D4.out.1.2.size; omega) ?_; intro v' w7 hown7 hgr7 _; obtain ⟨A', c', rfl⟩ := own_form hown7)
                have D7 := TV.push hp2 (by omega) (⟨2, nm, al, em, tx, at'⟩ : TokD) HR.out D4.out D5.out hgr7 hown7
                exact ⟨⟨z, f, ps ++ [(⟨2, nm, al, em, tx, at'⟩, .slice A2 al.length c2)], A', c', hz3, by simp, ⟨by rw [HST.out, List.map_append]; rfl, by omega⟩, by simp; omega, D7⟩, by rw [D7.1.1.c1, M1.out]; simp [intOf]; omega⟩
              · obtain ⟨u1, u2⟩ := empty_no htx
                go_wp2_with (at_builtin; refine wpList_append_own _ rfl (.tmp 47) (.tmp 49) 23 rfl (p + 1) 38 i0 (.agg #[.int .i64 0, .string ⟨#[]⟩, .slice none 0 0, .bool false, .string ⟨#[]⟩, .int .i64 0]) 6 80 Tryz.underlying23 hi0 hi1 hi3 hi4 rfl (by decide) (.slice A ps.length c) ps.length (toksCells ps) rfl (D5.out.2.1.alloc _) ⟨w4.heap.size + 1, 0, none⟩ 1 1 (tokCells (⟨3, nm, al, em, tx, at'⟩, .slice A2 al.length c2)) rfl rfl (tok_new2 _ _ _ (⟨3, nm, al, em, tx, at'⟩, .slice A2 al.length c2)) (tok_one _ _ _ _) (by unfold maxLen; omega) (by omega) (by simp; have := D4.out.1.2.size; omega) ?_; intro v' w7 hown7 hgr7 _; obtain ⟨A', c', rfl⟩ := own_form hown7)
                have D7 := TV.push hp2 (by omega) (⟨3, nm, al, em, tx, at'⟩ : TokD) HR.out D4.out D5.out hgr7 hown7
                exact ⟨⟨z, f, ps ++ [(⟨3, nm, al, em, tx, at'⟩, .slice A2 al.length c2)], A', c', hz3, by simp, ⟨by rw [HST.out, List.map_append]; rfl, by omega⟩, by simp; omega, D7⟩, by rw [D7.1.1.c1, M1.out]; simp [intOf]; omega⟩
            · simp only at hk htx
              rw [if_neg (by rintro (h | h) <;> contradiction)] at hst
              have HST := Lib.hid hst
              subst htx
              have u1 : (ofBytes ([] : List UInt8)).toList.isEmpty = true := by rw [ByteArray.toList_eq, ofBytes_list]; rfl
              have u2 : (ofBytes ([] : List UInt8)).toList = [] := by rw [ByteArray.toList_eq, ofBytes_list]
              clear hst hk2 htx2
              rcases hk with rfl | rfl
              · skip
                go_wp2
                go_roundw
                case rel => exact ⟨z, f, ps, A, c, hz3, rfl, ⟨HST.out, by omega⟩, by omega, D5.out⟩
                case measure => rw [D5.out.1.1.c1, M1.out]; simp [intOf]; omega
              · skip
                go_wp2
                go_roundw
                case rel => exact ⟨z, f, ps, A, c, hz3, rfl, ⟨HST.out, by omega⟩, by omega, D5.out⟩
                case measure => rw [D5.out.1.1.c1, M1.out]; simp [intOf]; omega
        case neg =>
          obtain rfl : a = s.size := by omega
          rw [if_neg hlt] at hst
          have HST := Lib.hid hst
          rw [show ((s.size : Int) == (s.size : Int)) = true by simp] at cE
          clear hst
          go_wp2_with fail
          refine (cE _ hD.1.1).mono ?_
          rintro e w3 ⟨rfl, b3⟩
          have D3 := Lib.hid (hD.more b3)
          have q5 := D3.out.1.1.c1
          clear b3
          go_wp2
          go_quiet (fail)
          go_wp2
          exact bodyPost_ret (v := .tuple #[.slice A ps.length c, .int .i64 s.size, .int .i64 0]) (by simp [results, Tryz.results6, go_sem]) rfl ⟨A, c, (by rw [HST.out]; simp only [List.length_map]), (fun w'' hk => by rw [HST.out]; exact (tokens_of_rowX (TokRowX.keeps D3.out.2 (B := w.heap.size) (by omega) hk)).2), below_drewN (D3.out.1.2.below HBA.out (by omega) HBA.out.size) _⟩
  · rw [if_pos hk] at hE
    have hkb : ((k2 : Int) != 0) = true := by simpa using hk
    subst hE
    go_enter Tryz.func6, Tryz.ntmps6
    go_wp2_with fail
    refine (cK ()).mono ?_
    rintro e w1 ⟨rfl, b1⟩
    go_wp2
    exact bodyPost_ret (v := .tuple #[.slice none 0 0, .int .i64 k1, .int .i64 k2]) (by simp [results, Tryz.results6, go_sem]) rfl ⟨none, 0, rfl, fun _ _ i h => absurd h (Nat.not_lt_zero _), b1⟩
theorem tok_Tokens (s : ByteArray) (w : World) (hs : s.size ≤ 100000) (hT : TokT w) : Calls Tryz.prog 6 #[.string s] w fun e w' => TokIs w (toksP s) e w' := (tok_TokensN s w hs hT).mono fun _ _ ⟨p, c, he, ha, hb⟩ => ⟨p, c, he, ha _ (fun _ _ _ => rfl), hb⟩
end
section
open Go.RowKit

theorem TokIs.at {w0 w' : World} {R : List TokD × Int × Int} {e : Ending} {l : List TokD} {a b : Int} (h : TokIs w0 R e w') (hR : R = (l, a, b)) : ∃ p c, e = .returned (.tuple #[.slice p l.length c, .int .i64 a, .int .i64 b]) ∧ TokensAt w' p l ∧ Below w0.heap.size w0 w' := by
  subst hR; exact h
set_option maxRecDepth 100000 in
set_option maxHeartbeats 8000000 in
theorem tok_alive (w : World) (hT : TokT w) : Calls Tryz.prog 5 #[] w fun e w' => e = .returned (.bool true) ∧ Below w.heap.size w w' := by
  have c1 : ∀ wx, TokT wx → _ := fun wx ht => (tok_Tokens ⟨#[60, 97, 32, 98, 61, 39, 49, 39, 47, 62, 120]⟩ wx (by decide) ht).mono fun _ _ h => h.at ex_1
  have c2 : ∀ wx, TokT wx → _ := fun wx ht => (tok_Tokens ⟨#[60, 97, 32, 98, 61, 49, 62]⟩ wx (by decide) ht).mono fun _ _ h => h.at ex_2
  have c3 : ∀ wx, TokT wx → _ := fun wx ht => (tok_Tokens ⟨#[60, 97]⟩ wx (by decide) ht).mono fun _ _ h => h.at ex_3
  have c4 : ∀ wx, TokT wx → _ := fun wx ht => (tok_Tokens ⟨#[60, 33, 68, 79, 67, 84, 89, 80, 69, 32, 120, 62]⟩ wx (by decide) ht).mono fun _ _ h => h.at ex_4
  have c5 : ∀ wx, TokT wx → _ := fun wx ht => tok_IsQName ⟨#[120, 58, 121]⟩ wx (by decide) ht
  rw [ex_5] at c5
  go_enter Tryz.func5, Tryz.ntmps5
  go_wp2_with fail
  refine (c1 _ hT).mono ?_
  rintro e w1 ⟨p, c, rfl, hp, b1⟩
  have t1 := TokT_below hT b1
  go_wp2_with fail
  refine (c2 _ t1).mono ?_
  rintro e w2 ⟨p2, cc2, rfl, _, b2⟩
  have t2 := TokT_below t1 b2
  go_wp2_with fail
  refine (c3 _ t2).mono ?_
  rintro e w3 ⟨p3, cc3, rfl, _, b3⟩
  have t3 := TokT_below t2 b3
  go_wp2_with fail
  refine (c4 _ t3).mono ?_
  rintro e w4 ⟨p4, cc4, rfl, _, b4⟩
  have t4 := TokT_below t3 b4
  have s1 := b1.size
  have s2 := b2.size
  have s3 := b3.size
  have s4 := b4.size
  have h4 := ((hp.below b2).below b3).below b4
  have e4 : Below w.heap.size w w4 := ((b1.trans (b2.mono s1)).trans (b3.mono (by omega))).trans (b4.mono (by omega))
  obtain ⟨a, q, c0, rfl, ⟨a0, a1, a2, a3, a4, a5⟩, hq⟩ := h4 0 (by decide)
  obtain ⟨a', q', c0', hpp, ⟨b0, b1, b2, b3, b4, b5⟩, _⟩ := h4 1 (by decide)
  obtain rfl := Option.some.inj hpp
  obtain ⟨d, rfl, d0, d1, d2, d3⟩ := hq 0 (by decide)
  clear c1 c2 c3 c4 hp h4 hq
  simp [Addr.add, attrOf, tokT] at a0 a1 a2 a3 a4 a5 b0 b1 b2 b3 b4 b5 d0 d1 d2 d3
  replace a1 : w4.cell? ⟨a.block, a.off + 1, none⟩ = some (.string ⟨#[97]⟩) := a1
  replace b4 : w4.cell? ⟨a.block, a.off + 6 + 4, none⟩ = some (.string ⟨#[120]⟩) := b4
  replace d1 : w4.cell? ⟨d.block, d.off + 1, none⟩ = some (.string ⟨#[98]⟩) := d1
  replace d2 : w4.cell? ⟨d.block, d.off + 2, none⟩ = some (.string ⟨#[49]⟩) := d2
  have hE : ∀ wx, (Op.equalIn 10000 37 (.agg #[.string ⟨#[]⟩, .string ⟨#[98]⟩, .string ⟨#[49]⟩, .int .i64 3]) (.agg #[.string ⟨#[]⟩, .string ⟨#[98]⟩, .string ⟨#[49]⟩, .int .i64 3])).run Tryz.prog wx = .ok true wx := fun wx => (eqAttr ⟨⟨#[]⟩, ⟨#[98]⟩, ⟨#[49]⟩, 3⟩ ⟨⟨#[]⟩, ⟨#[98]⟩, ⟨#[49]⟩, 3⟩ wx).trans (by rw [decide_eq_true rfl])
  have hE2 : ∀ wx, (Op.equal 37 (.agg #[.string ⟨#[]⟩, .string ⟨#[98]⟩, .string ⟨#[49]⟩, .int .i64 3]) (.agg #[.string ⟨#[]⟩, .string ⟨#[98]⟩, .string ⟨#[49]⟩, .int .i64 3])).run Tryz.prog wx = .ok true wx := hE
  have HE := Lib.hid e4
  clear a4 a5 b0 b1 b2 b3 e4 t1 t2 t3 s1 s2 s3 s4 hT
  go_wp2_with fail
  refine (c5 _ t4).mono ?_
  rintro e w5 ⟨rfl, b5⟩
  go_wp2
  go_ret
  exact ⟨rfl, HE.out.trans (b5.mono HE.out.size)⟩
end
end Go.Proofs.YtpphpnkijokffaaGreatDoor
