/- Packed from the texts JzN. -/
import Derived.Test.YtanjmdeoikobhaaDoorXJzC
import Derived.Test.YtanjmdeoikobhaaDoorXJzH
import Derived.Test.YtanjmdeoikobhaaDoorXkK
import Derived.Laws.BytesArg
section
namespace Go.Proofs.YtanjmdeoikobhaaDoor
open Go.RowKit
def BAt (w : World) (p : Option Addr) (zs : List Int) : Prop := ∀ i (h : i < zs.length), ∃ a, p = some a ∧ w.cell? (a.add i) = some (.int .u8 zs[i])
theorem BAt.below {w w' : World} (hb : Below w.heap.size w w') {p : Option Addr} {zs : List Int} (h : BAt w p zs) : BAt w' p zs := fun i hi => by
  obtain ⟨a, hp, hc⟩ := h i hi
  exact ⟨a, hp, (hb.cell (vblock_lt hc)).trans hc⟩
theorem numT_snoc (neg : Bool) (zs : List Int) (i : Nat) (h : i < zs.length) : ofBytes (numT neg (zs.take (i + 1))) = ofBytes (numT neg (zs.take i)) ++ ofBytes [digitJ zs[i]] := by
  unfold numT
  rw [List.take_succ_eq_append_getElem h, List.map_append, ← List.append_assoc, jb_app]
  rfl
theorem ex_leaf {w : World} {n : Int} {x : Value} (h : ValIs w (leafV 2 false n ⟨#[]⟩ 0) x) : ∃ (p : Option Addr) (c : Nat) (q : Option Addr) (d : Nat), x = .agg #[.int .i64 2, .bool false, .int .i64 n, .string ⟨#[]⟩, .slice p 0 c, .slice q 0 d, .int .i64 0] := by
  obtain ⟨p, c, q, d, rfl, -, -⟩ := (val_is w _ x).1 h
  exact ⟨p, c, q, d, rfl⟩
set_option maxRecDepth 100000 in
set_option maxHeartbeats 16000000 in
theorem walk_JvNumbers (zs : List Int) (p : Option Addr) (c : Nat) (neg : Bool) (w : World) (hT : TabV w) (hZ : BAt w p zs) (hz : ∀ z ∈ zs, 0 ≤ z ∧ z ≤ 255) :
    Calls Tryd.prog 5 #[.slice p zs.length c, .bool neg] w fun e w' => e = .returned (.bool true) ∧ Below w.heap.size w w' := by
  have cA : ∀ wx, TabV wx → _ := fun wx ht => jv_alive wx ht
  by_cases h30 : 30 < zs.length
  · have h30z : (30 : Int) < (zs.length : Int) := by omega
    clear hZ hz h30
    go_enter Tryd.func5, Tryd.ntmps5
    go_wp2_with fail
    refine (cA _ hT).mono ?_
    rintro e w1 ⟨rfl, b1⟩
    go_wp2
    go_ret
    exact ⟨rfl, b1⟩
  · have h30z : ¬ (30 : Int) < (zs.length : Int) := by omega
    have hlz : (zs.length : Int) ≤ 30 := by omega
    have hn31 := numT_len neg zs
    have c1 := fun wx ht => jp_Parse (ofBytes (numT neg zs)) wx (by rw [ofBytes_size]; omega) ht
    rw [ofBytes_list] at c1
    have c2 := fun wx => jref_Number (ofBytes (numT neg zs)) wx (by rw [ofBytes_size]; omega)
    rw [ofBytes_list] at c2
    have HP := Lib.hid (numT_parse neg zs)
    have HSZ := Lib.hid (show (ofBytes (numT neg zs)).size = (numT neg zs).length from ofBytes_size _)
    have HZ := Lib.hid hZ
    have HZB := Lib.hid hz
    clear hZ hz hn31 h30
    cases neg with
    | false =>
      go_enter Tryd.func5, Tryd.ntmps5
      go_wp2
      go_loopw [5, 20] (fun s x wr => ∃ i : Nat, i ≤ zs.length ∧ x = .int .i64 i ∧ s = .string (ofBytes (numT false (zs.take i))) ∧ Below w.heap.size w wr) (fun _ x _ => zs.length - (intOf x).toNat)
      case atStart => exact ⟨0, Nat.zero_le _, rfl, rfl, Below.refl _ _⟩
      case round =>
        obtain ⟨i, hi, rfl, rfl, hbel⟩ := hrel
        have hzr := hbel.size
        by_cases hlt : i < zs.length
        case pos =>
          have hiz : (i : Int) < (zs.length : Int) := by omega
          obtain ⟨a, rfl, hc⟩ := (HZ.out.below hbel) i hlt
          have HS := Lib.hid (numT_snoc false zs i hlt)
          obtain ⟨z, hzz⟩ : ∃ z, zs[i] = z := ⟨_, rfl⟩
          rw [hzz] at hc HS
          have hzb := HZB.out z (by rw [← hzz]; exact List.getElem_mem _)
          obtain ⟨hz0, hz1⟩ := hzb
          have hsl : (ofBytes (numT false (zs.take i))).size ≤ 31 := by rw [ofBytes_size]; have := numT_len false (zs.take i); rw [List.length_take] at this; omega
          have hs1 : ¬ 9223372036854775807 < (ofBytes (numT false (zs.take i))).size + 1 := by omega
          have hw8 : IntKind.u8.wrap (48 + z % 10) = 48 + z % 10 := by simp [IntKind.wrap, IntKind.signed, IntKind.bits]; omega
          have hcv := run_convert_bytes_arg (P := Tryd.prog) (wr.alloc (.cells #[.int .u8 (48 + z % 10)] 5)) 39 5 Tryd.underlying39 Tryd.underlying5 wr.heap.size 0 1 1 [48 + z % 10] rfl (fun j hj => by have hj0 : j = 0 := (by omega); subst hj0; exact (Bj.new wr #[.int .u8 (48 + z % 10)] 5).cell 0) 9 Tryd.underlying9
          rw [show strOfNums [48 + z % 10] = ofBytes [digitJ z] from rfl] at hcv
          have hso : (ofBytes [digitJ z]).size = 1 := rfl
          generalize ofBytes [digitJ z] = E at *
          generalize ofBytes (numT false (zs.take i)) = S at *
          have hs1' : ¬ 9223372036854775807 < S.size + E.size := by omega
          clear hzz hsl hso
          go_wp2
          go_roundw
          case rel => exact ⟨i + 1, by omega, by go_num, by rw [HS.out], hbel.alloc (by omega) _⟩
          case measure => simp [intOf]; omega
        case neg =>
          obtain rfl : i = zs.length := by omega
          rw [List.take_length]
          have hiz : ¬ (zs.length : Int) < (zs.length : Int) := by omega
          have t1 := TabV_below hT hbel
          generalize numT false zs = T at *
          by_cases hT0 : T = []
          · subst hT0
            rw [par_none] at c1
            rw [show ofBytes [] = (⟨#[]⟩ : ByteArray) from rfl] at *
            clear c2 HP HSZ HZ HZB
            go_wp2_with fail
            refine (c1 _ t1).mono ?_
            rintro e w1 ⟨⟨x, rfl, hx⟩, b1⟩
            obtain ⟨p3, c3, q3, d3, rfl⟩ := ex_zero hx
            have b1' := b1.alloc b1.size (.cells #[.int .i64 0, .bool false, .int .i64 0, .string ⟨#[]⟩, .slice p3 0 c3, .slice q3 0 d3, .int .i64 0] 25)
            have t2 := TabV_below t1 b1'
            clear hx c1 b1
            go_wp2_with fail
            refine (cA _ t2).mono ?_
            rintro e w2 ⟨rfl, b2⟩
            go_wp2
            go_ret
            exact ⟨by simp, (hbel.trans (b1'.mono hbel.size)).trans (b2.mono (Nat.le_trans hbel.size b1'.size))⟩
          · have hne : ofBytes T ≠ ⟨#[]⟩ := fun e => by
              have := HSZ.out
              rw [e] at this
              exact hT0 (List.length_eq_zero_iff.1 this.symm)
            have hne2 := jstr_ne2 hne
            have hne3 := jstr_ne3 hne
            have hes : (⟨#[]⟩ : ByteArray).toList = [] := by rw [ByteArray.toList_eq]
            have hne4 : ¬ (ofBytes T).toList = [] := fun e => hne3 (e.trans hes.symm)
            have hne5 : ((ofBytes T).toList == []) = false := beq_eq_false_iff_ne.2 hne4
            clear hes
            have hPP := HP.out hT0
            cases hj : jnumL T with
            | none =>
              rw [hj] at hPP c2
              simp only at hPP
              rw [hPP] at c1
              clear hPP HP HSZ HZ HZB hj hT0
              generalize ofBytes T = S at *
              go_wp2_with fail
              refine (c1 _ t1).mono ?_
              rintro e w1 ⟨⟨x, rfl, hx⟩, b1⟩
              obtain ⟨p3, c3, q3, d3, rfl⟩ := ex_zero hx
              have b1' := b1.alloc b1.size (.cells #[.int .i64 0, .bool false, .int .i64 0, .string ⟨#[]⟩, .slice p3 0 c3, .slice q3 0 d3, .int .i64 0] 25)
              have t2 := TabV_below t1 b1'
              clear hx c1 b1
              go_wp2_with fail
              refine (c2 _).mono ?_
              rintro e w1b ⟨⟨N, rfl, -⟩, rfl⟩
              go_wp2_with fail
              refine (cA _ t2).mono ?_
              rintro e w2 ⟨rfl, b2⟩
              go_wp2
              go_ret
              exact ⟨by simp, (hbel.trans (b1'.mono hbel.size)).trans (b2.mono (Nat.le_trans hbel.size b1'.size))⟩
            | some n =>
              rw [hj] at hPP c2
              simp only at hPP
              rw [← HSZ.out] at hPP
              rw [hPP] at c1
              clear hPP HP HSZ HZ HZB hj hT0
              generalize ofBytes T = S at *
              go_wp2_with fail
              refine (c1 _ t1).mono ?_
              rintro e w1 ⟨⟨x, rfl, hx⟩, b1⟩
              obtain ⟨p3, c3, q3, d3, rfl⟩ := ex_leaf hx
              have b1' := b1.alloc b1.size (.cells #[.int .i64 2, .bool false, .int .i64 n, .string ⟨#[]⟩, .slice p3 0 c3, .slice q3 0 d3, .int .i64 0] 25)
              have t2 := TabV_below t1 b1'
              have C1 := Bj.new w1 #[.int .i64 2, .bool false, .int .i64 n, .string ⟨#[]⟩, .slice p3 0 c3, .slice q3 0 d3, .int .i64 0] 25
              clear hx c1 b1
              go_wp2_with fail
              refine (c2 _).mono ?_
              rintro e w1b ⟨⟨N, rfl, hN⟩, rfl⟩
              obtain rfl := hN n rfl
              go_wp2_with fail
              refine (cA _ t2).mono ?_
              rintro e w2 ⟨rfl, b2⟩
              have C2 := C1.more b2
              have f0 : w2.cell? ⟨w1.heap.size, 0, none⟩ = some (.int .i64 2) := C2.cell 0
              have f2 : w2.cell? ⟨w1.heap.size, 2, none⟩ = some (.int .i64 N) := C2.cell 2
              clear C1 C2
              go_wp2
              go_ret
              exact ⟨by simp, (hbel.trans (b1'.mono hbel.size)).trans (b2.mono (Nat.le_trans hbel.size b1'.size))⟩
    | true =>
      go_enter Tryd.func5, Tryd.ntmps5
      go_wp2
      go_loopw [5, 20] (fun s x wr => ∃ i : Nat, i ≤ zs.length ∧ x = .int .i64 i ∧ s = .string (ofBytes (numT true (zs.take i))) ∧ Below w.heap.size w wr) (fun _ x _ => zs.length - (intOf x).toNat)
      case atStart => exact ⟨0, Nat.zero_le _, rfl, rfl, Below.refl _ _⟩
      case round =>
        obtain ⟨i, hi, rfl, rfl, hbel⟩ := hrel
        have hzr := hbel.size
        by_cases hlt : i < zs.length
        case pos =>
          have hiz : (i : Int) < (zs.length : Int) := by omega
          obtain ⟨a, rfl, hc⟩ := (HZ.out.below hbel) i hlt
          have HS := Lib.hid (numT_snoc true zs i hlt)
          obtain ⟨z, hzz⟩ : ∃ z, zs[i] = z := ⟨_, rfl⟩
          rw [hzz] at hc HS
          have hzb := HZB.out z (by rw [← hzz]; exact List.getElem_mem _)
          obtain ⟨hz0, hz1⟩ := hzb
          have hsl : (ofBytes (numT true (zs.take i))).size ≤ 31 := by rw [ofBytes_size]; have := numT_len true (zs.take i); rw [List.length_take] at this; omega
          have hs1 : ¬ 9223372036854775807 < (ofBytes (numT true (zs.take i))).size + 1 := by omega
          have hw8 : IntKind.u8.wrap (48 + z % 10) = 48 + z % 10 := by simp [IntKind.wrap, IntKind.signed, IntKind.bits]; omega
          have hcv := run_convert_bytes_arg (P := Tryd.prog) (wr.alloc (.cells #[.int .u8 (48 + z % 10)] 5)) 39 5 Tryd.underlying39 Tryd.underlying5 wr.heap.size 0 1 1 [48 + z % 10] rfl (fun j hj => by have hj0 : j = 0 := (by omega); subst hj0; exact (Bj.new wr #[.int .u8 (48 + z % 10)] 5).cell 0) 9 Tryd.underlying9
          rw [show strOfNums [48 + z % 10] = ofBytes [digitJ z] from rfl] at hcv
          have hso : (ofBytes [digitJ z]).size = 1 := rfl
          generalize ofBytes [digitJ z] = E at *
          generalize ofBytes (numT true (zs.take i)) = S at *
          have hs1' : ¬ 9223372036854775807 < S.size + E.size := by omega
          clear hzz hsl hso
          go_wp2
          go_roundw
          case rel => exact ⟨i + 1, by omega, by go_num, by rw [HS.out], hbel.alloc (by omega) _⟩
          case measure => simp [intOf]; omega
        case neg =>
          obtain rfl : i = zs.length := by omega
          rw [List.take_length]
          have hiz : ¬ (zs.length : Int) < (zs.length : Int) := by omega
          have t1 := TabV_below hT hbel
          generalize numT true zs = T at *
          by_cases hT0 : T = []
          · subst hT0
            rw [par_none] at c1
            rw [show ofBytes [] = (⟨#[]⟩ : ByteArray) from rfl] at *
            clear c2 HP HSZ HZ HZB
            go_wp2_with fail
            refine (c1 _ t1).mono ?_
            rintro e w1 ⟨⟨x, rfl, hx⟩, b1⟩
            obtain ⟨p3, c3, q3, d3, rfl⟩ := ex_zero hx
            have b1' := b1.alloc b1.size (.cells #[.int .i64 0, .bool false, .int .i64 0, .string ⟨#[]⟩, .slice p3 0 c3, .slice q3 0 d3, .int .i64 0] 25)
            have t2 := TabV_below t1 b1'
            clear hx c1 b1
            go_wp2_with fail
            refine (cA _ t2).mono ?_
            rintro e w2 ⟨rfl, b2⟩
            go_wp2
            go_ret
            exact ⟨by simp, (hbel.trans (b1'.mono hbel.size)).trans (b2.mono (Nat.le_trans hbel.size b1'.size))⟩
          · have hne : ofBytes T ≠ ⟨#[]⟩ := fun e => by
              have := HSZ.out
              rw [e] at this
              exact hT0 (List.length_eq_zero_iff.1 this.symm)
            have hne2 := jstr_ne2 hne
            have hne3 := jstr_ne3 hne
            have hes : (⟨#[]⟩ : ByteArray).toList = [] := by rw [ByteArray.toList_eq]
            have hne4 : ¬ (ofBytes T).toList = [] := fun e => hne3 (e.trans hes.symm)
            have hne5 : ((ofBytes T).toList == []) = false := beq_eq_false_iff_ne.2 hne4
            clear hes
            have hPP := HP.out hT0
            cases hj : jnumL T with
            | none =>
              rw [hj] at hPP c2
              simp only at hPP
              rw [hPP] at c1
              clear hPP HP HSZ HZ HZB hj hT0
              generalize ofBytes T = S at *
              go_wp2_with fail
              refine (c1 _ t1).mono ?_
              rintro e w1 ⟨⟨x, rfl, hx⟩, b1⟩
              obtain ⟨p3, c3, q3, d3, rfl⟩ := ex_zero hx
              have b1' := b1.alloc b1.size (.cells #[.int .i64 0, .bool false, .int .i64 0, .string ⟨#[]⟩, .slice p3 0 c3, .slice q3 0 d3, .int .i64 0] 25)
              have t2 := TabV_below t1 b1'
              clear hx c1 b1
              go_wp2_with fail
              refine (c2 _).mono ?_
              rintro e w1b ⟨⟨N, rfl, -⟩, rfl⟩
              go_wp2_with fail
              refine (cA _ t2).mono ?_
              rintro e w2 ⟨rfl, b2⟩
              go_wp2
              go_ret
              exact ⟨by simp, (hbel.trans (b1'.mono hbel.size)).trans (b2.mono (Nat.le_trans hbel.size b1'.size))⟩
            | some n =>
              rw [hj] at hPP c2
              simp only at hPP
              rw [← HSZ.out] at hPP
              rw [hPP] at c1
              clear hPP HP HSZ HZ HZB hj hT0
              generalize ofBytes T = S at *
              go_wp2_with fail
              refine (c1 _ t1).mono ?_
              rintro e w1 ⟨⟨x, rfl, hx⟩, b1⟩
              obtain ⟨p3, c3, q3, d3, rfl⟩ := ex_leaf hx
              have b1' := b1.alloc b1.size (.cells #[.int .i64 2, .bool false, .int .i64 n, .string ⟨#[]⟩, .slice p3 0 c3, .slice q3 0 d3, .int .i64 0] 25)
              have t2 := TabV_below t1 b1'
              have C1 := Bj.new w1 #[.int .i64 2, .bool false, .int .i64 n, .string ⟨#[]⟩, .slice p3 0 c3, .slice q3 0 d3, .int .i64 0] 25
              clear hx c1 b1
              go_wp2_with fail
              refine (c2 _).mono ?_
              rintro e w1b ⟨⟨N, rfl, hN⟩, rfl⟩
              obtain rfl := hN n rfl
              go_wp2_with fail
              refine (cA _ t2).mono ?_
              rintro e w2 ⟨rfl, b2⟩
              have C2 := C1.more b2
              have f0 : w2.cell? ⟨w1.heap.size, 0, none⟩ = some (.int .i64 2) := C2.cell 0
              have f2 : w2.cell? ⟨w1.heap.size, 2, none⟩ = some (.int .i64 N) := C2.cell 2
              clear C1 C2
              go_wp2
              go_ret
              exact ⟨by simp, (hbel.trans (b1'.mono hbel.size)).trans (b2.mono (Nat.le_trans hbel.size b1'.size))⟩
end Go.Proofs.YtanjmdeoikobhaaDoor
end
