/- The reference of layer 3: is. -/
import Derived.Test.YtmcokldninhgdaaDoorDatP
namespace Go.Proofs.YtmcokldninhgdaaDoor
open Go.RowKit

theorem retB2 {a b : Bool} (h : a = b) : Ending.returned (.bool a) = .returned (.bool b) := by rw [h]
set_option maxHeartbeats 1000000 in
theorem dref_is (s : ByteArray) (i a b : Int) (w : World) (h0 : 0 ≤ i) (ha : 0 ≤ a) (hb : 0 ≤ b) (hs : s.size ≤ 140737488351232) :
    Calls Tryd.prog 22 #[.string s, .int .i64 i, .int .u8 a, .int .u8 b] w fun e w' => e = .returned (.bool (isL (zs s) i.toNat a b)) ∧ w = w' := by
  by_cases hlt : i < (s.size : Int)
  · have hn : i.toNat < s.size := by omega
    obtain ⟨x, hx⟩ : ∃ x, s[i.toNat]'hn = x := ⟨_, rfl⟩
    have hc : ch (zs s) i.toNat = (x.toNat : Int) := by rw [ch_at s _ hn, hx]
    unfold isL
    rw [hc]
    clear hc
    go_enter Tryd.func22, Tryd.ntmps22
    go_wp2
    all_goals go_ret
    all_goals exact ⟨retB2 (by simp_all), rfl⟩
  · have hc : ch (zs s) i.toNat = -1 := ch_out s _ (by omega)
    have hr : isL (zs s) i.toNat a b = false := by
      unfold isL; rw [hc]
      have h1 : ((-1 : Int) == a) = false := by simp; omega
      have h2 : ((-1 : Int) == b) = false := by simp; omega
      rw [h1, h2]; rfl
    rw [hr]
    clear hr hc
    go_enter Tryd.func22, Tryd.ntmps22
    go_wp2
    all_goals go_ret
    all_goals exact ⟨rfl, rfl⟩
end Go.Proofs.YtmcokldninhgdaaDoor
