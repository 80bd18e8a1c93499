/- The laws of layer 10: alive; walks of Quotes, Parses, RoundTrip, Prefixes. -/
import Derived.Test.YtdkinamblobjpaaDoorJsK
namespace Go.Proofs.YtdkinamblobjpaaDoor
open Go.RowKit

theorem ex_quote : quoteP [97, 10, 34] = ([34, 97, 92, 110, 92, 34, 34], 0) := by
  unfold quoteP
  rw [if_pos (by rw [vaL_cons _ _ (by decide), vaL_cons _ _ (by decide), vaL_cons _ _ (by decide)]; rfl)]
  decide
theorem ex_parse : parP [34, 92, 117, 48, 48, 52, 49, 92, 117, 100, 56, 51, 100, 92, 117, 100, 101, 48, 48, 34] 0 = ([65, 240, 159, 152, 128], 20, 0) := by
  unfold parP
  rw [if_pos ⟨by omega, by decide, rfl⟩]
  show parJ 0 1 (92 :: 117 :: 48 :: 48 :: 52 :: 49 :: [92, 117, 100, 56, 51, 100, 92, 117, 100, 101, 48, 48, 34]) [] = _
  rw [parJ_unit 0 1 48 48 52 49 _ [] 65 (by decide) (by decide) (by decide), parJ_eq _ _ _ _ (by simp), getD_cons0, if_neg (by decide), if_pos rfl, if_neg (by decide),
    show seqL [92, 117, 100, 56, 51, 100, 92, 117, 100, 101, 48, 48, 34] = (128512, 12) by decide, if_neg (by decide)]
  show parJ 0 (1 + 6 + 12) [34] (([] ++ eb 65) ++ eb 128512) = _
  rw [parJ_quote]
  decide
theorem ex_bad : parP [34, 97, 92, 117, 100, 56, 51, 100, 34] 0 = ([], 2, 16) := by
  unfold parP
  rw [if_pos ⟨by omega, by decide, rfl⟩]
  show parJ 0 1 (97 :: [92, 117, 100, 56, 51, 100, 34]) [] = _
  rw [parJ_plain _ _ _ _ _ (by decide) (by decide) (by decide) (by decide), parJ_eq _ _ _ _ (by simp), getD_cons0, if_neg (by decide), if_pos rfl, if_neg (by decide),
    show seqL [92, 117, 100, 56, 51, 100, 34] = (0, 0) by decide, if_pos rfl]
  rfl
set_option maxRecDepth 100000 in
set_option maxHeartbeats 16000000 in
theorem js_alive (w : World) (hT : TabJ w) : Calls Tryd.prog 9 #[] w fun e w' => e = .returned (.bool true) ∧ Below w.heap.size w w' := by
  have c1 : ∀ wx, TabJ wx → Calls Tryd.prog 10 #[.string ⟨#[97, 10, 34]⟩] wx fun e w' => e = .returned (.tuple #[.string ⟨#[34, 97, 92, 110, 92, 34, 34]⟩, .int .i64 0]) ∧ Below wx.heap.size wx w' := fun wx ht => by
    have := js_Quote ⟨#[97, 10, 34]⟩ wx (by decide) ht
    rw [show (⟨#[97, 10, 34]⟩ : ByteArray).data.toList = [97, 10, 34] from rfl, ex_quote] at this
    exact this
  have c2 : ∀ wx, TabJ wx → Calls Tryd.prog 12 #[.string ⟨#[34, 92, 117, 48, 48, 52, 49, 92, 117, 100, 56, 51, 100, 92, 117, 100, 101, 48, 48, 34]⟩, .int .i64 0] wx fun e w' => e = .returned (.tuple #[.string ⟨#[65, 240, 159, 152, 128]⟩, .int .i64 20, .int .i64 0]) ∧ Below wx.heap.size wx w' := fun wx ht => by
    have := js_Parse ⟨#[34, 92, 117, 48, 48, 52, 49, 92, 117, 100, 56, 51, 100, 92, 117, 100, 101, 48, 48, 34]⟩ 0 wx (by decide) ht
    rw [show (⟨#[34, 92, 117, 48, 48, 52, 49, 92, 117, 100, 56, 51, 100, 92, 117, 100, 101, 48, 48, 34]⟩ : ByteArray).data.toList = [34, 92, 117, 48, 48, 52, 49, 92, 117, 100, 56, 51, 100, 92, 117, 100, 101, 48, 48, 34] from rfl, ex_parse] at this
    exact this
  have c3 : ∀ wx, TabJ wx → Calls Tryd.prog 12 #[.string ⟨#[34, 97, 92, 117, 100, 56, 51, 100, 34]⟩, .int .i64 0] wx fun e w' => e = .returned (.tuple #[.string ⟨#[]⟩, .int .i64 2, .int .i64 16]) ∧ Below wx.heap.size wx w' := fun wx ht => by
    have := js_Parse ⟨#[34, 97, 92, 117, 100, 56, 51, 100, 34]⟩ 0 wx (by decide) ht
    rw [show (⟨#[34, 97, 92, 117, 100, 56, 51, 100, 34]⟩ : ByteArray).data.toList = [34, 97, 92, 117, 100, 56, 51, 100, 34] from rfl, ex_bad] at this
    exact this
  go_enter Tryd.func9, Tryd.ntmps9
  (go_wp2_with fail); (refine (c1 _ hT).mono ?_); (rintro e w1 ⟨rfl, b1⟩)
  have t1 := TabJ_below hT b1
  (go_wp2_with fail); (refine (c2 _ t1).mono ?_); (rintro e w2 ⟨rfl, b2⟩)
  have t2 := TabJ_below t1 b2
  (go_wp2_with fail); (refine (c3 _ t2).mono ?_); (rintro e w3 ⟨rfl, b3⟩)
  have z1 := b1.size
  have z2 := b2.size
  go_wp2
  go_ret
  exact ⟨rfl, (b1.trans (b2.mono z1)).trans (b3.mono (by omega))⟩

/-! ### Quotes -/
set_option maxRecDepth 100000 in
set_option maxHeartbeats 16000000 in
theorem walk_JsQuotes (s : ByteArray) (w : World) (hT : TabJ w) :
    Calls Tryd.prog 3 #[.string s] w fun e w' => e = .returned (.bool true) ∧ Below w.heap.size w w' := by
  by_cases h5 : (5000 : Int) < (s.size : Int)
  · go_enter Tryd.func3, Tryd.ntmps3
    (go_wp2_with fail); (refine (js_alive _ hT).mono ?_); (rintro e w1 ⟨rfl, b1⟩)
    go_wp2
    go_ret
    exact ⟨rfl, b1⟩
  · have c1 : ∀ wx, TabJ wx → _ := fun wx => js_Quote s wx (by omega)
    have c2 : ∀ wx, _ := fun wx => jref_Quote s wx (by omega)
    generalize ofBytes (quoteP s.data.toList).1 = a at *
    generalize (quoteP s.data.toList).2 = b at *
    go_enter Tryd.func3, Tryd.ntmps3
    (go_wp2_with fail); (refine (c1 _ hT).mono ?_); (rintro e w1 ⟨rfl, b1⟩)
    have t1 := TabJ_below hT b1
    go_wp2_with fail
    refine (c2 _).mono ?_
    rintro e w2 ⟨rfl, b2⟩
    have t2 := TabJ_below t1 b2
    (go_wp2_with fail); (refine (js_alive _ t2).mono ?_); (rintro e w3 ⟨rfl, b3⟩)
    have z1 := b1.size
    have z2 := b2.size
    go_wp2
    go_ret
    exact ⟨by simp, (b1.trans (b2.mono z1)).trans (b3.mono (by omega))⟩

/-! ### Parses -/
set_option maxRecDepth 100000 in
set_option maxHeartbeats 16000000 in
theorem walk_JsParses (s : ByteArray) (a : Int) (w : World) (hT : TabJ w) :
    Calls Tryd.prog 4 #[.string s, .int .i64 a] w fun e w' => e = .returned (.bool true) ∧ Below w.heap.size w w' := by
  by_cases h5 : (5000 : Int) < (s.size : Int)
  · go_enter Tryd.func4, Tryd.ntmps4
    (go_wp2_with fail); (refine (js_alive _ hT).mono ?_); (rintro e w1 ⟨rfl, b1⟩)
    go_wp2
    go_ret
    exact ⟨rfl, b1⟩
  · have c1 : ∀ wx, TabJ wx → _ := fun wx => js_Parse s a wx (by omega)
    have c2 : ∀ wx, _ := fun wx => jref_Parse s a wx (by omega)
    generalize parP s.data.toList a = p at *
    obtain ⟨p1, p2, p3⟩ := p
    simp only at c1 c2
    generalize ofBytes p1 = q at *
    go_enter Tryd.func4, Tryd.ntmps4
    (go_wp2_with fail); (refine (c1 _ hT).mono ?_); (rintro e w1 ⟨rfl, b1⟩)
    have t1 := TabJ_below hT b1
    go_wp2_with fail
    refine (c2 _).mono ?_
    rintro e w2 ⟨rfl, b2⟩
    have t2 := TabJ_below t1 b2
    (go_wp2_with fail); (refine (js_alive _ t2).mono ?_); (rintro e w3 ⟨rfl, b3⟩)
    have z1 := b1.size
    have z2 := b2.size
    go_wp2
    go_ret
    exact ⟨by simp, (b1.trans (b2.mono z1)).trans (b3.mono (by omega))⟩

/-! ### RoundTrip -/
set_option maxRecDepth 100000 in
set_option maxHeartbeats 16000000 in
theorem walk_JsRound (s before after : ByteArray) (w : World) (hT : TabJ w) (r0 : s.size ≤ 140737488351232) (r1 : before.size ≤ 140737488351232) (r2 : after.size ≤ 140737488351232) :
    Calls Tryd.prog 5 #[.string s, .string before, .string after] w fun e w' => e = .returned (.bool true) ∧ Below w.heap.size w w' := by
  by_cases h5 : (5000 : Int) < (s.size : Int) + (before.size : Int) + (after.size : Int)
  · go_enter Tryd.func5, Tryd.ntmps5
    (go_wp2_with fail); (refine (js_alive _ hT).mono ?_); (rintro e w1 ⟨rfl, b1⟩)
    go_wp2
    go_ret
    exact ⟨rfl, b1⟩
  · have cV : ∀ wx, _ := fun wx => jref_Valid s wx (by omega)
    rcases hv : vaL s.data.toList with _ | _
    · rw [hv] at cV
      clear hv
      go_enter Tryd.func5, Tryd.ntmps5
      go_wp2_with fail
      refine (cV _).mono ?_
      rintro e w1 ⟨rfl, b1⟩
      have t1 := TabJ_below hT b1
      (go_wp2_with fail); (refine (js_alive _ t1).mono ?_); (rintro e w2 ⟨rfl, b2⟩)
      have z1 := b1.size
      go_wp2
      go_ret
      exact ⟨rfl, b1.trans (b2.mono z1)⟩
    · rw [hv] at cV
      have c1 : ∀ wx, TabJ wx → _ := fun wx => js_Quote s wx (by omega)
      unfold quoteP at c1
      rw [hv, if_pos rfl] at c1
      have hql := quoteJ_len s.data.toList
      have hil := itemsJ_len s.data.toList
      rw [show s.data.toList.length = s.size by simp] at hil
      have hEz : (ofBytes (quoteJ s.data.toList)).size = (quoteJ s.data.toList).length := ofBytes_size _
      have hR := parP_round s.data.toList before.data.toList after.data.toList hv
      rw [show before.data.toList.length = before.size by simp, ← hEz] at hR
      obtain ⟨S, hS⟩ : ∃ S, S = before ++ ofBytes (quoteJ s.data.toList) ++ after := ⟨_, rfl⟩
      have hSd : S.data.toList = before.data.toList ++ quoteJ s.data.toList ++ after.data.toList := by rw [hS]; simp [ByteArray.data_append, ofBytes_list]
      have hSz : S.size = before.size + (ofBytes (quoteJ s.data.toList)).size + after.size := by rw [hS, ByteArray.size_append, ByteArray.size_append]
      have c2 : ∀ wx, TabJ wx → _ := fun wx => js_Parse S (before.size : Int) wx (by omega)
      rw [hSd, hR] at c2
      simp only [ofBytes_data] at c1 c2
      have hE6 : (ofBytes (quoteJ s.data.toList)).size ≤ 30002 := by omega
      clear hR hSd hSz hil hql hv hEz
      generalize ofBytes (quoteJ s.data.toList) = E at *
      have HS := Lib.hid hS
      clear hS
      have hbz : before.size ≤ 5000 := by omega
      have haz : after.size ≤ 5000 := by omega
      go_enter Tryd.func5, Tryd.ntmps5
      go_wp2_with fail
      refine (cV _).mono ?_
      rintro e w1 ⟨rfl, b1⟩
      have t1 := TabJ_below hT b1
      (go_wp2_with fail); (refine (c1 _ t1).mono ?_); (rintro e w2 ⟨rfl, b2⟩)
      have t2 := TabJ_below t1 b2
      go_wp2_with fail
      rw [← HS.out]
      refine (c2 _ t2).mono ?_
      rintro e w3 ⟨rfl, b3⟩
      have t3 := TabJ_below t2 b3
      (go_wp2_with fail); (refine (js_alive _ t3).mono ?_); (rintro e w4 ⟨rfl, b4⟩)
      have z1 := b1.size
      have z2 := b2.size
      have z3 := b3.size
      go_wp2
      go_ret
      exact ⟨by simp, ((b1.trans (b2.mono z1)).trans (b3.mono (by omega))).trans (b4.mono (by omega))⟩
end Go.Proofs.YtdkinamblobjpaaDoor
