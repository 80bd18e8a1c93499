/- The walk of the law of layer 3 on strings that are not of the form. -/
import Derived.Test.YtmcokldninhgdaaDoorDatN
import Derived.Test.YtmcokldninhgdaaDoorStrK
import Derived.Test.YtmcokldninhgdaaDoorDatH
import Derived.Deep.RegionWith
import Derived.IntWalk
namespace Go.Proofs.YtmcokldninhgdaaDoor
open Go.RowKit

theorem zs_nums (l : List Int) (h : ∀ x ∈ l, 0 ≤ x ∧ x < 256) : zs (strOfNums l) = l := zs_str l h
set_option maxRecDepth 100000 in
set_option maxHeartbeats 4000000 in
theorem walk_DatStrict (t c at' : Int) (w : World) (hc0 : 0 ≤ c) (hc1 : c ≤ 255) (ha0 : 0 ≤ at') (ha1 : at' ≤ 255) (hT : DatT w) :
    Calls Tryd.prog 8 #[.int .i64 t, .int .u8 c, .int .u8 at'] w fun e w' => e = .returned (.bool true) ∧ Below w.heap.size w w' := by
  rcases hin : inTime t with _ | _
  · have c1 : ∀ wx, DatT wx → _ := fun wx => dat_Format_no t wx hin
    clear hin
    go_enter Tryd.func8, Tryd.ntmps8
    (go_wp2_with fail); (refine (c1 _ hT).mono ?_); (rintro e w1 ⟨rfl, b1⟩)
    have t1 := DatT_below hT b1
    (go_wp2_with fail); (refine (dat_alive _ t1).mono ?_); (rintro e w2 ⟨rfl, b2⟩)
    go_wp2
    go_ret
    have s1 := b1.size
    exact ⟨by simp, b1.trans (b2.mono (by omega))⟩
  · obtain ⟨y, m, d, h, mi, s, hv, hc, rfl⟩ := time_exists t hin
    obtain ⟨k, hk⟩ : ∃ k, k = at' % 19 := ⟨_, rfl⟩
    have hk0 : 0 ≤ k ∧ k < 19 := by omega
    have hl := fmtL_length y m d h mi s
    have hby := fmtL_byte hv hc
    have p1 := parse_front (h := h) (mi := mi) (s := s) c hv
    have p2 := parse_behind c hv hc
    have p3 := parse_less hv hc k.toNat (by omega)
    have z1 : zs (strOfNums [c] ++ strOfNums (fmtL y m d h mi s)) = c :: fmtL y m d h mi s := by
      rw [str_app]; exact zs_nums _ (fun x hx => by
        rcases List.mem_cons.1 hx with rfl | hx
        · omega
        · exact hby x hx)
    have z2 : zs (strOfNums (fmtL y m d h mi s) ++ strOfNums [c]) = fmtL y m d h mi s ++ [c] := by
      rw [str_app]; exact zs_nums _ (fun x hx => by
        rcases List.mem_append.1 hx with hx | hx
        · exact hby x hx
        · rw [List.mem_singleton.1 hx]; omega)
    have z3 : zs ((strOfNums (fmtL y m d h mi s)).extract 0 k.toNat ++ (strOfNums (fmtL y m d h mi s)).extract (k.toNat + 1) 20) = (fmtL y m d h mi s).take k.toNat ++ (fmtL y m d h mi s).drop (k.toNat + 1) := by
      rw [str_extract, str_extract, str_app, List.drop_zero, List.take_of_length_le (i := 20) (by omega)]
      exact zs_nums _ (fun x hx => by
        rcases List.mem_append.1 hx with hx | hx
        · exact hby x (List.mem_of_mem_take hx)
        · exact hby x (List.mem_of_mem_drop hx))
    have c1 : ∀ wx, DatT wx → _ := fun wx => dat_Format_yes y m d h mi s wx hv hc
    have hsz : (strOfNums (fmtL y m d h mi s)).size = 20 := by rw [str_size, hl]
    have hq : (strOfNums [c]).size = 1 := rfl
    have hcv : ∀ wx : World, _ := fun wx => dconv1 wx c
    generalize hf : strOfNums (fmtL y m d h mi s) = f at *
    generalize strOfNums [c] = p at *
    have n1 : (p ++ f).size = 21 := by rw [ByteArray.size_append]; omega
    have n2 : (f ++ p).size = 21 := by rw [ByteArray.size_append]; omega
    have n3 : (f.extract 0 k.toNat).size ≤ 20 := by rw [ByteArray.size_extract]; omega
    have n4 : (f.extract (k.toNat + 1) 20).size ≤ 20 := by rw [ByteArray.size_extract]; omega
    have n5 : (f.extract 0 k.toNat ++ f.extract (k.toNat + 1) 20).size ≤ 40 := by rw [ByteArray.size_append]; omega
    have c2 : ∀ wx, DatT wx → _ := fun wx => dat_Parse (p ++ f) wx (by omega)
    have c3 : ∀ wx, DatT wx → _ := fun wx => dat_Parse (f ++ p) wx (by omega)
    have c4 : ∀ wx, DatT wx → _ := fun wx => dat_Parse (f.extract 0 k.toNat ++ f.extract (k.toNat + 1) 20) wx (by omega)
    rw [z1, p1] at c2
    rw [z2, p2] at c3
    rw [z3, p3] at c4
    generalize timeI y m d h mi s = t at *
    clear z1 z2 z3 p1 p2 p3 hby hl hv hc hin hf
    go_enter Tryd.func8, Tryd.ntmps8
    (go_wp2_with fail); (refine (c1 _ hT).mono ?_); (rintro e w1 ⟨rfl, b1⟩)
    have t1 := DatT_below hT b1
    have q1 := hcv w1
    go_wp2_with fail
    refine (c2 _ (DatT_below t1 ((Below.refl _ _).alloc (Nat.le_refl _) _))).mono ?_
    rintro e w2 ⟨rfl, b2⟩
    have b2' := ((Below.refl w1.heap.size w1).alloc (Nat.le_refl _) (.cells #[.int .u8 c] 5)).trans (b2.mono (by simp))
    have t2 := DatT_below t1 b2'
    have q2 := hcv w2
    go_wp2_with fail
    refine (c3 _ (DatT_below t2 ((Below.refl _ _).alloc (Nat.le_refl _) _))).mono ?_
    rintro e w3 ⟨rfl, b3⟩
    have b3' := ((Below.refl w2.heap.size w2).alloc (Nat.le_refl _) (.cells #[.int .u8 c] 5)).trans (b3.mono (by simp))
    have t3 := DatT_below t2 b3'
    go_wp2_with fail
    rw [← hk]
    have i1 : ∀ wx, _ := fun wx => slice_to f k hk0.1 (by omega) wx
    have i2 : ∀ wx, _ := fun wx => slice_from f (k + 1) (by omega) (by omega) wx
    rw [hsz, show (k + 1).toNat = k.toNat + 1 by omega] at i2
    have a1 : IntKind.i64.wrap (k + 1) = k + 1 := IntWalk.i64_in _ (by omega)
    have b3w : Below w.heap.size w w3 := (b1.trans (b2'.mono b1.size)).trans (b3'.mono (by have := b1.size; have := b2'.size; omega))
    have hw3 := b3w.size
    generalize f.extract 0 k.toNat = fa at *
    generalize f.extract (k.toNat + 1) 20 = fb at *
    clear c1 c2 c3 q1 q2 hcv b1 b2 b2' b3 b3' t1 t2 hT n1 n2 hq hk hsz hc0 hc1 ha0 ha1
    have k0 := hk0.1
    have k1 := hk0.2
    clear hk0
    go_region_with (go_at_call 12; refine (c4 _ (by first | exact t3 | exact DatT_below t3 ((Below.refl _ _).drew))).mono ?_; rintro e w4 ⟨rfl, b4⟩)
    have b4' : Below w3.heap.size w3 w4 := ((Below.refl w3.heap.size w3).drew).trans b4
    have t4 := DatT_below t3 b4'
    have hw4 := b4'.size
    (go_wp2_with fail); (refine (dat_alive _ t4).mono ?_); (rintro e w5 ⟨rfl, b5⟩)
    go_wp2
    go_ret
    exact ⟨by simp, (b3w.trans (b4'.mono hw3)).trans (b5.mono (by omega))⟩
end Go.Proofs.YtmcokldninhgdaaDoor
