/- The walk of the law of layer 4 on white space. -/
import Derived.Test.YtdbpkggjnmapiaaDoorRfcL
import Derived.Test.YtdbpkggjnmapiaaDoorShelf
namespace Go.Proofs.YtdbpkggjnmapiaaDoor
open Go.RowKit

theorem rfc_ReplaceAll (s g : ByteArray) (m : Int) (w : World) (hm : w.cell? ⟨5, 0, none⟩ = some (.int .i64 m)) (hs : s.size ≤ 1000) (hg : g.size ≤ 10) :
    Calls Tryd.prog 16 #[.string s, .string ⟨#[32]⟩, .string g] w fun e w' => e = .returned (.string (ofBytes (respace g.data.toList s.data.toList))) ∧ Below w.heap.size w w' := by
  have hc := Lib.countB_le ⟨#[32]⟩ (by decide) s.size s (Nat.le_refl _)
  have h := Tryd.strings_ReplaceAll s ⟨#[32]⟩ g m w (by omega) hm (by decide) (by
    have : Lib.countB s ⟨#[32]⟩ * g.size ≤ 1000 * 10 := Nat.mul_le_mul (by omega) hg
    omega)
  rw [show (⟨#[32]⟩ : ByteArray).data.toList = [32] from rfl, replaceAll_eq] at h
  exact h
theorem respace_length (g : List UInt8) (hg : g.length ≤ 3) : ∀ l : List UInt8, (respace g l).length ≤ 3 * l.length
  | [] => by simp [respace]
  | c :: r => by
    have ih := respace_length g hg r
    by_cases h : c = 32
    · rw [h, respace_space, List.length_append, List.length_cons]; omega
    · rw [respace_other _ _ _ h, List.length_cons, List.length_cons]; omega
theorem gap_facts : whites [32] ∧ whites [9] ∧ whites [13, 10, 32] ∧ whites [32, 32] := by
  refine ⟨?_, ?_, ?_, ?_⟩
  all_goals
    intro c hc
    simp only [List.mem_cons, List.not_mem_nil, or_false] at hc
    rcases hc with rfl | rfl | rfl
    all_goals decide

set_option maxRecDepth 100000 in
set_option maxHeartbeats 4000000 in
theorem walk_RfcSpaces (s : ByteArray) (k : Int) (m : Int) (w : World) (hk0 : 0 ≤ k) (hk1 : k ≤ 255) (hT : RfcT w) (hm : w.cell? ⟨5, 0, none⟩ = some (.int .i64 m)) :
    Calls Tryd.prog 6 #[.string s, .int .u8 k] w fun e w' => e = .returned (.bool true) ∧ Below w.heap.size w w' := by
  by_cases h5 : (1000 : Int) < (s.size : Int)
  · clear hm
    go_enter Tryd.func6, Tryd.ntmps6
    (go_wp2_with fail); (refine (rfc_alive _ hT).mono ?_); (rintro e w1 ⟨rfl, b1⟩)
    go_wp2
    go_ret
    exact ⟨rfl, b1⟩
  · have hz : s.size ≤ 1000 := by omega
    have c1 : ∀ wx, RfcT wx → _ := fun wx => rfc_Parse s wx (by omega)
    have c2 : ∀ wx, _ := fun wx => ref_Collapse s wx (by omega)
    have hcl := rcol_length s.data.toList
    have hsl : s.data.toList.length = s.size := by simp
    have hcz : (ofBytes (collapse s.data.toList)).size ≤ 1000 := by rw [ofBytes_size]; omega
    have hm1 : ∀ {w1 : World}, Below w.heap.size w w1 → w1.cell? ⟨5, 0, none⟩ = some (.int .i64 m) := fun b => (b.cell (p := ⟨5, 0, none⟩) (rblock_lt hm)).trans hm
    obtain ⟨g1, g2, g3, g4⟩ := gap_facts
    have go : ∀ g : List UInt8, whites g → g ≠ [] → g.length ≤ 3 → ∃ r : ByteArray, (∀ wx : World, wx.cell? ⟨5, 0, none⟩ = some (.int .i64 m) → Calls Tryd.prog 16 #[.string (ofBytes (collapse s.data.toList)), .string ⟨#[32]⟩, .string (ofBytes g)] wx fun e w' => e = .returned (.string r) ∧ Below wx.heap.size wx w') ∧ (r.size ≤ 3000 ∧ (ofBytes g ++ r).size ≤ 3010) ∧
        (∀ wx, RfcT wx → Calls Tryd.prog 12 #[.string (ofBytes g ++ r ++ ofBytes g)] wx fun e w' => e = .returned (.tuple #[.int .i64 (parse822 s).1, .int .i64 (parse822 s).2]) ∧ Below wx.heap.size wx w') := by
      intro g hg hne hgl
      have hrl := respace_length g hgl (collapse s.data.toList)
      have hgs : (ofBytes g).size ≤ 3 := by rw [ofBytes_size]; exact hgl
      have hrs : (ofBytes (respace g (collapse s.data.toList))).size ≤ 3000 := by rw [ofBytes_size]; omega
      refine ⟨ofBytes (respace g (collapse s.data.toList)), fun wx hx => ?_, ⟨hrs, by rw [ByteArray.size_append]; omega⟩, fun wx hx => ?_⟩
      · have h := rfc_ReplaceAll (ofBytes (collapse s.data.toList)) (ofBytes g) m wx hx hcz (by omega)
        rw [ofBytes_list, ofBytes_list] at h
        exact h
      · have h := rfc_Parse (ofBytes g ++ ofBytes (respace g (collapse s.data.toList)) ++ ofBytes g) wx (by rw [ByteArray.size_append, ByteArray.size_append]; omega) hx
        have he : ofBytes g ++ ofBytes (respace g (collapse s.data.toList)) ++ ofBytes g = ofBytes (g ++ respace g (collapse s.data.toList) ++ g) := by
          apply str_ext
          simp [ofBytes]
        rw [he, parse_respace g hg hne s, ← he] at h
        exact h
    have q1 := go [32] g1 (by simp) (by simp)
    have q2 := go [9] g2 (by simp) (by simp)
    have q3 := go [13, 10, 32] g3 (by simp) (by simp)
    have q4 := go [32, 32] g4 (by simp) (by simp)
    clear go g1 g2 g3 g4 hcl hsl hm
    rw [show ofBytes [32] = ⟨#[32]⟩ from rfl] at q1
    rw [show ofBytes [9] = ⟨#[9]⟩ from rfl] at q2
    rw [show ofBytes [13, 10, 32] = ⟨#[13, 10, 32]⟩ from rfl] at q3
    rw [show ofBytes [32, 32] = ⟨#[32, 32]⟩ from rfl] at q4
    generalize parse822 s = v at *
    obtain ⟨v1, v2⟩ := v
    simp only at c1 q1 q2 q3 q4
    generalize ofBytes (collapse s.data.toList) = C at *
    rcases (by omega : k % 4 = 0 ∨ k % 4 = 1 ∨ k % 4 = 2 ∨ k % 4 = 3) with hk | hk | hk | hk
    · clear q2 q3 q4
      obtain ⟨r, c3, ⟨hr, n1⟩, c4⟩ := q1
      have hix : ∀ wx : World, (Instr.index 35 (.agg #[.string ⟨#[32]⟩, .string ⟨#[9]⟩, .string ⟨#[13, 10, 32]⟩, .string ⟨#[32, 32]⟩]) (.int .u8 0)).run Tryd.prog wx = .ok (.string ⟨#[32]⟩) wx := fun _ => by kernel_rfl
      go_enter Tryd.func6, Tryd.ntmps6
      (go_wp2_with fail); (refine (c1 _ hT).mono ?_); (rintro e w1 ⟨rfl, b1⟩)
      have t1 := RfcT_below hT b1
      go_wp2_with fail
      refine (c2 _).mono ?_
      rintro e w2 ⟨rfl, b2⟩
      have t2 := RfcT_below t1 b2
      have e2 : Below w.heap.size w w2 := b1.trans (b2.mono b1.size)
      go_wp2_with fail
      refine (c3 _ (hm1 e2)).mono ?_
      rintro e w3 ⟨rfl, b3⟩
      have t3 := RfcT_below t2 b3
      (go_wp2_with fail); (refine (c4 _ t3).mono ?_); (rintro e w4 ⟨rfl, b4⟩)
      have t4 := RfcT_below t3 b4
      (go_wp2_with fail); (refine (rfc_alive _ t4).mono ?_); (rintro e w5 ⟨rfl, b5⟩)
      go_wp2
      go_ret
      have s2 := e2.size; have s3 := b3.size; have s4 := b4.size
      exact ⟨by simp, ((e2.trans (b3.mono (by omega))).trans (b4.mono (by omega))).trans (b5.mono (by omega))⟩
    · clear q1 q3 q4
      obtain ⟨r, c3, ⟨hr, n1⟩, c4⟩ := q2
      have hix : ∀ wx : World, (Instr.index 35 (.agg #[.string ⟨#[32]⟩, .string ⟨#[9]⟩, .string ⟨#[13, 10, 32]⟩, .string ⟨#[32, 32]⟩]) (.int .u8 1)).run Tryd.prog wx = .ok (.string ⟨#[9]⟩) wx := fun _ => by kernel_rfl
      go_enter Tryd.func6, Tryd.ntmps6
      (go_wp2_with fail); (refine (c1 _ hT).mono ?_); (rintro e w1 ⟨rfl, b1⟩)
      have t1 := RfcT_below hT b1
      go_wp2_with fail
      refine (c2 _).mono ?_
      rintro e w2 ⟨rfl, b2⟩
      have t2 := RfcT_below t1 b2
      have e2 : Below w.heap.size w w2 := b1.trans (b2.mono b1.size)
      go_wp2_with fail
      refine (c3 _ (hm1 e2)).mono ?_
      rintro e w3 ⟨rfl, b3⟩
      have t3 := RfcT_below t2 b3
      (go_wp2_with fail); (refine (c4 _ t3).mono ?_); (rintro e w4 ⟨rfl, b4⟩)
      have t4 := RfcT_below t3 b4
      (go_wp2_with fail); (refine (rfc_alive _ t4).mono ?_); (rintro e w5 ⟨rfl, b5⟩)
      go_wp2
      go_ret
      have s2 := e2.size; have s3 := b3.size; have s4 := b4.size
      exact ⟨by simp, ((e2.trans (b3.mono (by omega))).trans (b4.mono (by omega))).trans (b5.mono (by omega))⟩
    · clear q1 q2 q4
      obtain ⟨r, c3, ⟨hr, n1⟩, c4⟩ := q3
      have hix : ∀ wx : World, (Instr.index 35 (.agg #[.string ⟨#[32]⟩, .string ⟨#[9]⟩, .string ⟨#[13, 10, 32]⟩, .string ⟨#[32, 32]⟩]) (.int .u8 2)).run Tryd.prog wx = .ok (.string ⟨#[13, 10, 32]⟩) wx := fun _ => by kernel_rfl
      go_enter Tryd.func6, Tryd.ntmps6
      (go_wp2_with fail); (refine (c1 _ hT).mono ?_); (rintro e w1 ⟨rfl, b1⟩)
      have t1 := RfcT_below hT b1
      go_wp2_with fail
      refine (c2 _).mono ?_
      rintro e w2 ⟨rfl, b2⟩
      have t2 := RfcT_below t1 b2
      have e2 : Below w.heap.size w w2 := b1.trans (b2.mono b1.size)
      go_wp2_with fail
      refine (c3 _ (hm1 e2)).mono ?_
      rintro e w3 ⟨rfl, b3⟩
      have t3 := RfcT_below t2 b3
      (go_wp2_with fail); (refine (c4 _ t3).mono ?_); (rintro e w4 ⟨rfl, b4⟩)
      have t4 := RfcT_below t3 b4
      (go_wp2_with fail); (refine (rfc_alive _ t4).mono ?_); (rintro e w5 ⟨rfl, b5⟩)
      go_wp2
      go_ret
      have s2 := e2.size; have s3 := b3.size; have s4 := b4.size
      exact ⟨by simp, ((e2.trans (b3.mono (by omega))).trans (b4.mono (by omega))).trans (b5.mono (by omega))⟩
    · clear q1 q2 q3
      obtain ⟨r, c3, ⟨hr, n1⟩, c4⟩ := q4
      have hix : ∀ wx : World, (Instr.index 35 (.agg #[.string ⟨#[32]⟩, .string ⟨#[9]⟩, .string ⟨#[13, 10, 32]⟩, .string ⟨#[32, 32]⟩]) (.int .u8 3)).run Tryd.prog wx = .ok (.string ⟨#[32, 32]⟩) wx := fun _ => by kernel_rfl
      go_enter Tryd.func6, Tryd.ntmps6
      (go_wp2_with fail); (refine (c1 _ hT).mono ?_); (rintro e w1 ⟨rfl, b1⟩)
      have t1 := RfcT_below hT b1
      go_wp2_with fail
      refine (c2 _).mono ?_
      rintro e w2 ⟨rfl, b2⟩
      have t2 := RfcT_below t1 b2
      have e2 : Below w.heap.size w w2 := b1.trans (b2.mono b1.size)
      go_wp2_with fail
      refine (c3 _ (hm1 e2)).mono ?_
      rintro e w3 ⟨rfl, b3⟩
      have t3 := RfcT_below t2 b3
      (go_wp2_with fail); (refine (c4 _ t3).mono ?_); (rintro e w4 ⟨rfl, b4⟩)
      have t4 := RfcT_below t3 b4
      (go_wp2_with fail); (refine (rfc_alive _ t4).mono ?_); (rintro e w5 ⟨rfl, b5⟩)
      go_wp2
      go_ret
      have s2 := e2.size; have s3 := b3.size; have s4 := b4.size
      exact ⟨by simp, ((e2.trans (b3.mono (by omega))).trans (b4.mono (by omega))).trans (b5.mono (by omega))⟩
end Go.Proofs.YtdbpkggjnmapiaaDoor
