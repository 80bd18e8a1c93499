/- Package jsonstring: number, sequence: what each returns. -/
import Derived.Test.YtdkinamblobjpaaDoorJsG
import Derived.Test.YtdkinamblobjpaaDoorShelf
namespace Go.Proofs.YtdkinamblobjpaaDoor
open Go.RowKit

set_option maxRecDepth 100000 in
set_option maxHeartbeats 8000000 in
theorem js_ParseUint_ok (t : ByteArray) (H : Int) (w : World) (h4 : t.size = 4) (hH : hexGo t.data.toList 0 = H) (h0 : 0 ≤ H) :
    Calls Tryd.prog 33 #[.string t, .int .i64 16, .int .i64 16] w fun e w' => e = .returned (.tuple #[.int .u64 H, .nilIface]) ∧ Below w.heap.size w w' := by
  have cI : ∀ wx, _ := fun wx => js_inner t wx h4
  rw [hH] at cI
  unfold puV at cI
  rw [if_neg (by omega)] at cI
  clear hH h4
  go_enter Tryd.func33, Tryd.ntmps33
  go_wp2_with fail
  refine (cI _).mono ?_
  rintro e w1 ⟨rfl, b1⟩
  go_wp2
  exact bodyPost_ret (v := .tuple #[.int .u64 H, .nilIface]) (by simp [results, Tryd.results33, go_sem]) rfl ⟨rfl, b1⟩
set_option maxRecDepth 100000 in
set_option maxHeartbeats 8000000 in
theorem js_ParseUint_bad (t : ByteArray) (w : World) (h4 : t.size = 4) (hH : hexGo t.data.toList 0 = -1) (hT : ErrJ w) :
    Calls Tryd.prog 33 #[.string t, .int .i64 16, .int .i64 16] w fun e w' => (∃ N : Nat, e = .returned (.tuple #[.int .u64 0, .iface 80 (.pointer (some ⟨N, 0, none⟩))])) ∧ Below w.heap.size w w' := by
  have cI : ∀ wx, _ := fun wx => js_inner t wx h4
  rw [hH] at cI
  unfold puV at cI
  rw [if_pos rfl] at cI
  have cE : ∀ wx, ErrJ wx → Calls Tryd.prog 40 #[.string ⟨#[80, 97, 114, 115, 101, 85, 105, 110, 116]⟩, .string t, .int .i64 16, .int .i64 16, .iface 79 (.int .i64 2)] wx fun e w' => (∃ N : Nat, e = .returned (.iface 80 (.pointer (some ⟨N, 0, none⟩)))) ∧ Below wx.heap.size wx w' := fun wx hw => by
    obtain ⟨te, pe, hv⟩ := hw
    exact (Tryd.strconv_toError_syntax ⟨#[80, 97, 114, 115, 101, 85, 105, 110, 116]⟩ t 16 16 (.iface te pe) wx (by omega) hv (.inr ⟨te, pe, rfl⟩)).mono fun e w' ⟨N, h1, _, _, h2⟩ => ⟨⟨N, h1⟩, h2⟩
  clear hH h4
  go_enter Tryd.func33, Tryd.ntmps33
  go_wp2_with fail
  refine (cI _).mono ?_
  rintro e w1 ⟨rfl, b1⟩
  have t1 := ErrJ_below hT b1
  go_wp2_with fail
  refine (cE _ t1).mono ?_
  rintro e w2 ⟨⟨N, rfl⟩, b2⟩
  have z1 := b1.size
  go_wp2
  exact bodyPost_ret (v := .tuple #[.int .u64 0, .iface 80 (.pointer (some ⟨N, 0, none⟩))]) (by simp [results, Tryd.results33, go_sem]) rfl ⟨⟨N, rfl⟩, b1.trans (b2.mono z1)⟩

/-! ### number -/
def numV (U : Int) : Value := if U = -1 then .tuple #[.int .i32 0, .bool false] else .tuple #[.int .i32 U, .bool true]
theorem pre_u (l : List UInt8) : ([92, 117] : List UInt8).isPrefixOf l = decide (2 ≤ l.length ∧ l.getD 0 0 = 92 ∧ l.getD 1 0 = 117) := by
  match l with
  | [] => rfl
  | [a] =>
    rw [List.isPrefixOf_cons_cons]
    symm
    have : ([117] : List UInt8).isPrefixOf [] = false := rfl
    rw [this, Bool.and_false]
    exact decide_eq_false (fun h => by simp at h)
  | a :: b :: r =>
    rw [List.isPrefixOf_cons_cons, List.isPrefixOf_cons_cons, show ([] : List UInt8).isPrefixOf r = true from rfl, Bool.and_true]
    rw [Bool.eq_iff_iff]
    simp only [Bool.and_eq_true, beq_iff_eq, decide_eq_true_eq, List.length_cons]
    constructor
    · rintro ⟨rfl, rfl⟩
      exact ⟨by omega, rfl, rfl⟩
    · rintro ⟨_, h1, h2⟩
      exact ⟨h1.symm, h2.symm⟩
theorem js_HasPrefix (s p : ByteArray) (b : Bool) (w : World) (h : p.data.toList.isPrefixOf s.data.toList = b) : Calls Tryd.prog 32 #[.string s, .string p] w fun e w' => e = .returned (.bool b) ∧ w = w' := by
  have := Tryd.strings_HasPrefix s p w
  rw [show Lib.hasPrefix s.data.toList p.data.toList = b from h] at this
  exact this.mono fun e w' ⟨a, b⟩ => ⟨a, b.symm⟩
set_option maxRecDepth 100000 in
set_option maxHeartbeats 16000000 in
theorem js_number (s : ByteArray) (w : World) (hs : s.size ≤ 1000000) (hT : ErrJ w) :
    Calls Tryd.prog 27 #[.string s] w fun e w' => e = .returned (numV (unitL s.data.toList)) ∧ Below w.heap.size w w' := by
  have hsl : s.data.toList.length = s.size := by simp
  have hu := unitL.eq_1 s.data.toList
  have hb := unitL_bd s.data.toList
  rw [hsl] at hu
  have hV := numV.eq_1 (unitL s.data.toList)
  by_cases h6 : 6 ≤ s.size
  · have hp := pre_u s.data.toList
    rw [hsl] at hp
    by_cases hq : s.data.toList.getD 0 0 = 92 ∧ s.data.toList.getD 1 0 = 117
    · rw [if_pos ⟨h6, hq⟩] at hu
      have cP : ∀ wx, _ := fun wx => js_HasPrefix s ⟨#[92, 117]⟩ true wx (hp.trans (decide_eq_true ⟨by omega, hq⟩))
      have hsm : ∀ wx, _ := fun wx => slice_mid s 2 6 (by omega) (by omega) (by omega) wx
      rw [show (2 : Int).toNat = 2 from rfl, show (6 : Int).toNat = 6 from rfl, eext, show 6 - 2 = 4 from rfl] at hsm
      have ht4 : (ofBytes ((s.data.toList.drop 2).take 4)).size = 4 := by rw [ofBytes_size, List.length_take, List.length_drop]; omega
      have htl : (ofBytes ((s.data.toList.drop 2).take 4)).data.toList = (s.data.toList.drop 2).take 4 := ofBytes_list _
      rw [← htl] at hu
      generalize unitL s.data.toList = U at *
      generalize ofBytes ((s.data.toList.drop 2).take 4) = t at *
      clear hp hq htl hsl
      by_cases hU : U = -1
      · rw [if_pos hU] at hV
        have cB : ∀ wx, ErrJ wx → _ := fun wx hw => js_ParseUint_bad t wx ht4 (by omega) hw
        have HV := Lib.hid hV
        have h6z : ¬ (s.size : Int) < 6 := by omega
        clear hu hV hU ht4 hb h6
        go_enter Tryd.func27, Tryd.ntmps27
        (go_wp2_with fail); (refine (cP _).mono ?_); (rintro e w' ⟨rfl, rfl⟩)
        go_wp2_with fail
        refine (cB _ hT).mono ?_
        rintro e w1 ⟨⟨N, rfl⟩, b1⟩
        go_wp2
        exact bodyPost_ret (v := .tuple #[.int .i32 0, .bool false]) (by simp [results, Tryd.results27, go_sem]) rfl ⟨jretV HV.out, b1⟩
      · rw [if_neg hU] at hV
        have cO : ∀ wx, _ := fun wx => js_ParseUint_ok t U wx ht4 hu.symm (by omega)
        have HV := Lib.hid hV
        have h6z : ¬ (s.size : Int) < 6 := by omega
        have hU0 : 0 ≤ U := by omega
        have hU1 : U ≤ 65535 := by omega
        clear hu hV hU ht4 hb h6
        go_enter Tryd.func27, Tryd.ntmps27
        (go_wp2_with fail); (refine (cP _).mono ?_); (rintro e w' ⟨rfl, rfl⟩)
        go_wp2_with fail
        refine (cO _).mono ?_
        rintro e w1 ⟨rfl, b1⟩
        go_wp2
        exact bodyPost_ret (v := .tuple #[.int .i32 U, .bool true]) (by simp [results, Tryd.results27, go_sem]) rfl ⟨jretV HV.out, b1⟩
    · rw [if_neg (fun h => hq h.2)] at hu
      rw [hu, if_pos rfl] at hV
      have cP : ∀ wx, _ := fun wx => js_HasPrefix s ⟨#[92, 117]⟩ false wx (hp.trans (decide_eq_false (fun h => hq h.2)))
      rw [hu]
      have HV := Lib.hid hV
      have h6z : ¬ (s.size : Int) < 6 := by omega
      clear hu hV hb hp hq hsl h6
      go_enter Tryd.func27, Tryd.ntmps27
      (go_wp2_with fail); (refine (cP _).mono ?_); (rintro e w' ⟨rfl, rfl⟩)
      go_wp2
      exact bodyPost_ret (v := .tuple #[.int .i32 0, .bool false]) (by simp [results, Tryd.results27, go_sem]) rfl ⟨jretV HV.out, Below.refl _ _⟩
  · rw [if_neg (fun h => h6 h.1)] at hu
    rw [hu, if_pos rfl] at hV
    rw [hu]
    have HV := Lib.hid hV
    have h6z : (s.size : Int) < 6 := by omega
    clear hu hV hb hsl h6
    go_enter Tryd.func27, Tryd.ntmps27
    go_wp2
    exact bodyPost_ret (v := .tuple #[.int .i32 0, .bool false]) (by simp [results, Tryd.results27, go_sem]) rfl ⟨jretV HV.out, Below.refl _ _⟩
end Go.Proofs.YtdkinamblobjpaaDoor
