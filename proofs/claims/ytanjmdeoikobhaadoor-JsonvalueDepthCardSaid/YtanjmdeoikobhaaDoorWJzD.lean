/- Packed from the texts JzD. -/
import Derived.Test.YtanjmdeoikobhaaDoorWJzC
import Derived.Test.YtanjmdeoikobhaaDoorWJzG
import Derived.Test.YtanjmdeoikobhaaDoorWShelf
import Derived.Deep.RegionHeld3
import Derived.KernelRfl
section
namespace Go.Proofs.YtanjmdeoikobhaaDoor
open Go.RowKit
theorem repj_bytes (x : List UInt8) (k : Nat) : (⟨(Lib.repeatL x k).toArray⟩ : ByteArray) = ofBytes (Lib.repeatL x k) := rfl
theorem nest_str (obj : Bool) (j : Nat) : (ofBytes (nestJ obj j)) = ofBytes (Lib.repeatL (opJ obj) j) ++ ofBytes [if obj then 123 else 91] ++ ofBytes [endB obj] ++ ofBytes (Lib.repeatL [endB obj] j) := by
  have h := nest_rep obj j []
  rw [List.append_nil, List.append_nil] at h
  rw [h, ← jb_app, ← jb_app, ← jb_app]
  simp
set_option maxRecDepth 100000 in
set_option maxHeartbeats 16000000 in
theorem walk_JvDepth (many : Int) (ob : Bool) (w : World) (hT : TabV w) (h0 : 0 ≤ many) (h1 : many ≤ 255) : Calls Tryd.prog 4 #[.int .u8 many, .bool ob] w fun e w' => e = .returned (.bool true) ∧ Below w.heap.size w w' := by
  obtain ⟨k, hk⟩ : ∃ k : Nat, many % 120 = (k : Int) := ⟨(many % 120).toNat, by omega⟩
  have hk2 : k ≤ 119 := by omega
  have cA : ∀ wx, TabV wx → _ := fun wx ht => jv_alive wx ht
  cases ob with
  | false =>
    have cO := fun wx => Tryd.strings_Repeat ⟨#[91]⟩ k wx (by omega) (by show 1 * k ≤ _; omega)
    have cC := fun wx => Tryd.strings_Repeat ⟨#[93]⟩ k wx (by omega) (by show 1 * k ≤ _; omega)
    rw [show (⟨#[91]⟩ : ByteArray).data.toList = opJ false from rfl, repj_bytes] at cO
    rw [show (⟨#[93]⟩ : ByteArray).data.toList = [endB false] from rfl, repj_bytes] at cC
    have hlo : (Lib.repeatL (opJ false) k).length = k * 1 := by rw [Lib.repeatL_length]; rfl
    have hlc : (Lib.repeatL [endB false] k).length = k * 1 := by rw [Lib.repeatL_length]; rfl
    have so : (ofBytes (Lib.repeatL (opJ false) k)).size = k * 1 := by rw [ofBytes_size, hlo]
    have sc : (ofBytes (Lib.repeatL [endB false] k)).size = k := by rw [ofBytes_size, hlc, Nat.mul_one]
    have hln : (nestJ false k).length = 2 + k * 2 := nest_len false k
    have c1 := fun wx ht => jp_Parse (ofBytes (nestJ false k)) wx (by rw [ofBytes_size, hln]; omega) ht
    have hg := fun h => nest_parse false k h
    have hd := fun h => nest_parse_deep false k h
    rw [ofBytes_list] at c1
    rw [nest_str, show ofBytes [if false then 123 else 91] = (⟨#[91]⟩ : ByteArray) from rfl, show ofBytes [endB false] = (⟨#[93]⟩ : ByteArray) from rfl] at c1
    generalize ofBytes (Lib.repeatL (opJ false) k) = S1 at *
    generalize ofBytes (Lib.repeatL [endB false] k) = S2 at *
    have hs1 : ¬ 9223372036854775807 < S1.size + 1 := by omega
    have hs2 : ¬ 9223372036854775807 < S1.size + 1 + 1 := by omega
    have hs3 : ¬ 9223372036854775807 < S1.size + 1 + 1 + S2.size := by omega
    clear hlo hlc so sc hln
    go_enter Tryd.func4, Tryd.ntmps4
    have hkw : IntKind.i64.wrap ((k : Int) + 1 - 1) = (k : Int) := by rw [show (k : Int) + 1 - 1 = k by omega]; exact wrapJ (by omega) (by omega)
    have hkz : (k : Int) + 1 - 1 = k := by omega
    have hkw2 : IntKind.i64.wrap (k : Int) = (k : Int) := wrapJ (by omega) (by omega)
    have hex1 : (⟨#[91]⟩ : ByteArray).extract 0 1 = ⟨#[91]⟩ := by kernel_rfl
    go_upto_region 5 with fail
    go_region_held3 (fun _ => True) (exact trivial) (first | (go_at_call 16; with_reducible refine (cC _).mono ?_; rintro e w2 ⟨rfl, b2⟩) | (go_at_call 16; with_reducible refine (cO _).mono ?_; rintro e w1 ⟨rfl, b1⟩))
    have b0 : Below w.heap.size w w.drew := (Below.refl _ _).drew
    have B2 := b0.trans ((b1.trans (b2.mono b1.size)).mono b0.size)
    have t2 := TabV_below hT B2
    clear cO cC b0 b1 b2 hkw hkz hkw2 hex1
    by_cases hk3 : k + 1 ≤ 100
    · obtain ⟨v, hP, hD, hC⟩ := hg hk3
      have hk4 : ¬ (100 : Int) < (k : Int) + 1 := by omega
      rw [hP] at c1
      have cD := fun wx x h => jp_Depth v.cnt v x wx (Nat.le_refl _) (by omega) h
      rw [hD, show ((k + 1 : Nat) : Int) = (k : Int) + 1 by omega] at cD
      clear hg hd hP hD hC
      go_wp2_with fail
      refine (c1 _ t2).mono ?_
      rintro e w3 ⟨⟨x, rfl, hx⟩, b3⟩
      obtain ⟨p3, c3, q3, d3, rfl⟩ := jval_form hx
      have b3' := b3.alloc b3.size (.cells #[.int .i64 v.kind, .bool v.b, .int .i64 v.n, .string v.s, .slice p3 v.items.length c3, .slice q3 v.mems.length d3, .int .i64 v.at'] 25)
      have t3 := TabV_below t2 b3'
      have C1 : JBox (w3.alloc (.cells #[.int .i64 v.kind, .bool v.b, .int .i64 v.n, .string v.s, .slice p3 v.items.length c3, .slice q3 v.mems.length d3, .int .i64 v.at'] 25)) w3.heap.size v p3 c3 q3 d3 := JBox.of (Bj.new w3 #[.int .i64 v.kind, .bool v.b, .int .i64 v.n, .string v.s, .slice p3 v.items.length c3, .slice q3 v.mems.length d3, .int .i64 v.at'] 25)
      have hx2 := hx.below ((Below.refl w3.heap.size w3).alloc (Nat.le_refl _) (.cells #[.int .i64 v.kind, .bool v.b, .int .i64 v.n, .string v.s, .slice p3 v.items.length c3, .slice q3 v.mems.length d3, .int .i64 v.at'] 25))
      clear hx c1
      go_wp2_with fail
      refine (cA _ t3).mono ?_
      rintro e w4 ⟨rfl, b4⟩
      have r1 := hx2.below b4
      obtain ⟨f0, f1, f2, f3, f4, f5, f6⟩ := C1.below b4
      have cD' := cD _ _ r1
      have XHB := Lib.hid ((B2.trans (b3'.mono B2.size)).trans (b4.mono (Nat.le_trans B2.size b3'.size)))
      clear hx2 C1 r1 b3 b3' b4 t3 cA cD B2 t2
      go_wp2_with fail
      refine cD'.mono ?_
      rintro e w5 ⟨rfl, b5⟩
      go_wp2
      go_ret
      exact ⟨by simp, XHB.out.trans (b5.mono XHB.out.size)⟩
    · have hP := hd hk3
      have hk4 : (100 : Int) < (k : Int) + 1 := by omega
      rw [hP, show ((100 * (opJ false).length : Nat) : Int) = 100 from rfl] at c1
      clear hg hd hP
      go_wp2_with fail
      refine (c1 _ t2).mono ?_
      rintro e w3 ⟨⟨x, rfl, hx⟩, b3⟩
      obtain ⟨p3, c3, q3, d3, rfl⟩ := ex_zero hx
      have b3' := b3.alloc b3.size (.cells #[.int .i64 0, .bool false, .int .i64 0, .string ⟨#[]⟩, .slice p3 0 c3, .slice q3 0 d3, .int .i64 0] 25)
      have t3 := TabV_below t2 b3'
      clear hx c1 b3
      go_wp2_with fail
      refine (cA _ t3).mono ?_
      rintro e w4 ⟨rfl, b4⟩
      go_wp2
      go_ret
      exact ⟨by simp, (B2.trans (b3'.mono B2.size)).trans (b4.mono (Nat.le_trans B2.size b3'.size))⟩
  | true =>
    have cO := fun wx => Tryd.strings_Repeat ⟨#[123, 34, 97, 34, 58]⟩ k wx (by omega) (by show 5 * k ≤ _; omega)
    have cC := fun wx => Tryd.strings_Repeat ⟨#[125]⟩ k wx (by omega) (by show 1 * k ≤ _; omega)
    rw [show (⟨#[123, 34, 97, 34, 58]⟩ : ByteArray).data.toList = opJ true from rfl, repj_bytes] at cO
    rw [show (⟨#[125]⟩ : ByteArray).data.toList = [endB true] from rfl, repj_bytes] at cC
    have hlo : (Lib.repeatL (opJ true) k).length = k * 5 := by rw [Lib.repeatL_length]; rfl
    have hlc : (Lib.repeatL [endB true] k).length = k * 1 := by rw [Lib.repeatL_length]; rfl
    have so : (ofBytes (Lib.repeatL (opJ true) k)).size = k * 5 := by rw [ofBytes_size, hlo]
    have sc : (ofBytes (Lib.repeatL [endB true] k)).size = k := by rw [ofBytes_size, hlc, Nat.mul_one]
    have hln : (nestJ true k).length = 2 + k * 6 := nest_len true k
    have c1 := fun wx ht => jp_Parse (ofBytes (nestJ true k)) wx (by rw [ofBytes_size, hln]; omega) ht
    have hg := fun h => nest_parse true k h
    have hd := fun h => nest_parse_deep true k h
    rw [ofBytes_list] at c1
    rw [nest_str, show ofBytes [if true then 123 else 91] = (⟨#[123]⟩ : ByteArray) from rfl, show ofBytes [endB true] = (⟨#[125]⟩ : ByteArray) from rfl] at c1
    generalize ofBytes (Lib.repeatL (opJ true) k) = S1 at *
    generalize ofBytes (Lib.repeatL [endB true] k) = S2 at *
    have hs1 : ¬ 9223372036854775807 < S1.size + 1 := by omega
    have hs2 : ¬ 9223372036854775807 < S1.size + 1 + 1 := by omega
    have hs3 : ¬ 9223372036854775807 < S1.size + 1 + 1 + S2.size := by omega
    clear hlo hlc so sc hln
    go_enter Tryd.func4, Tryd.ntmps4
    have hkw : IntKind.i64.wrap ((k : Int) + 1 - 1) = (k : Int) := by rw [show (k : Int) + 1 - 1 = k by omega]; exact wrapJ (by omega) (by omega)
    have hkz : (k : Int) + 1 - 1 = k := by omega
    have hkw2 : IntKind.i64.wrap (k : Int) = (k : Int) := wrapJ (by omega) (by omega)
    have hex1 : (⟨#[123, 34, 97, 34, 58]⟩ : ByteArray).extract 0 1 = ⟨#[123]⟩ := by kernel_rfl
    go_upto_region 5 with fail
    go_region_held3 (fun _ => True) (exact trivial) (first | (go_at_call 16; with_reducible refine (cC _).mono ?_; rintro e w2 ⟨rfl, b2⟩) | (go_at_call 16; with_reducible refine (cO _).mono ?_; rintro e w1 ⟨rfl, b1⟩))
    have b0 : Below w.heap.size w w.drew := (Below.refl _ _).drew
    have B2 := b0.trans ((b1.trans (b2.mono b1.size)).mono b0.size)
    have t2 := TabV_below hT B2
    clear cO cC b0 b1 b2 hkw hkz hkw2 hex1
    by_cases hk3 : k + 1 ≤ 100
    · obtain ⟨v, hP, hD, hC⟩ := hg hk3
      have hk4 : ¬ (100 : Int) < (k : Int) + 1 := by omega
      rw [hP] at c1
      have cD := fun wx x h => jp_Depth v.cnt v x wx (Nat.le_refl _) (by omega) h
      rw [hD, show ((k + 1 : Nat) : Int) = (k : Int) + 1 by omega] at cD
      clear hg hd hP hD hC
      go_wp2_with fail
      refine (c1 _ t2).mono ?_
      rintro e w3 ⟨⟨x, rfl, hx⟩, b3⟩
      obtain ⟨p3, c3, q3, d3, rfl⟩ := jval_form hx
      have b3' := b3.alloc b3.size (.cells #[.int .i64 v.kind, .bool v.b, .int .i64 v.n, .string v.s, .slice p3 v.items.length c3, .slice q3 v.mems.length d3, .int .i64 v.at'] 25)
      have t3 := TabV_below t2 b3'
      have C1 : JBox (w3.alloc (.cells #[.int .i64 v.kind, .bool v.b, .int .i64 v.n, .string v.s, .slice p3 v.items.length c3, .slice q3 v.mems.length d3, .int .i64 v.at'] 25)) w3.heap.size v p3 c3 q3 d3 := JBox.of (Bj.new w3 #[.int .i64 v.kind, .bool v.b, .int .i64 v.n, .string v.s, .slice p3 v.items.length c3, .slice q3 v.mems.length d3, .int .i64 v.at'] 25)
      have hx2 := hx.below ((Below.refl w3.heap.size w3).alloc (Nat.le_refl _) (.cells #[.int .i64 v.kind, .bool v.b, .int .i64 v.n, .string v.s, .slice p3 v.items.length c3, .slice q3 v.mems.length d3, .int .i64 v.at'] 25))
      clear hx c1
      go_wp2_with fail
      refine (cA _ t3).mono ?_
      rintro e w4 ⟨rfl, b4⟩
      have r1 := hx2.below b4
      obtain ⟨f0, f1, f2, f3, f4, f5, f6⟩ := C1.below b4
      have cD' := cD _ _ r1
      have XHB := Lib.hid ((B2.trans (b3'.mono B2.size)).trans (b4.mono (Nat.le_trans B2.size b3'.size)))
      clear hx2 C1 r1 b3 b3' b4 t3 cA cD B2 t2
      go_wp2_with fail
      refine cD'.mono ?_
      rintro e w5 ⟨rfl, b5⟩
      go_wp2
      go_ret
      exact ⟨by simp, XHB.out.trans (b5.mono XHB.out.size)⟩
    · have hP := hd hk3
      have hk4 : (100 : Int) < (k : Int) + 1 := by omega
      rw [hP, show ((100 * (opJ true).length : Nat) : Int) = 500 from rfl] at c1
      clear hg hd hP
      go_wp2_with fail
      refine (c1 _ t2).mono ?_
      rintro e w3 ⟨⟨x, rfl, hx⟩, b3⟩
      obtain ⟨p3, c3, q3, d3, rfl⟩ := ex_zero hx
      have b3' := b3.alloc b3.size (.cells #[.int .i64 0, .bool false, .int .i64 0, .string ⟨#[]⟩, .slice p3 0 c3, .slice q3 0 d3, .int .i64 0] 25)
      have t3 := TabV_below t2 b3'
      clear hx c1 b3
      go_wp2_with fail
      refine (cA _ t3).mono ?_
      rintro e w4 ⟨rfl, b4⟩
      go_wp2
      go_ret
      exact ⟨by simp, (B2.trans (b3'.mono B2.size)).trans (b4.mono (Nat.le_trans B2.size b3'.size))⟩
end Go.Proofs.YtanjmdeoikobhaaDoor
end
