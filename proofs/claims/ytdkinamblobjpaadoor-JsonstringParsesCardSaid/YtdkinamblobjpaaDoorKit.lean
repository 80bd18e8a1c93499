/- Small lemmas that belong to no function: bytes as a list and as a string, a slice of bytes that the call owns, its conversion to a string. -/
import Derived.WalkKit
import Derived.WalkSpells
import Derived.Lib.Hide
import Derived.Below
import Derived.OwnWalk
import Derived.Laws.BytesArg
namespace Go.Proofs.YtdkinamblobjpaaDoor
open Go.RowKit

def u8s (l : List UInt8) : List Value := l.map fun c => .int .u8 (c.toNat : Int)
def ofBytes (l : List UInt8) : ByteArray := ⟨l.toArray⟩
theorem ofBytes_data (s : ByteArray) : ofBytes s.data.toList = s := by cases s; simp [ofBytes]
theorem ofBytes_size (l : List UInt8) : (ofBytes l).size = l.length := by simp [ofBytes, ByteArray.size]
theorem ofBytes_list (l : List UInt8) : (ofBytes l).data.toList = l := by simp [ofBytes]
theorem u8s_length (l : List UInt8) : (u8s l).length = l.length := by simp [u8s]
theorem u8s_append (l m : List UInt8) : u8s (l ++ m) = u8s l ++ u8s m := by simp [u8s]
theorem strOfNums_u8 (l : List UInt8) : strOfNums (l.map fun c => (c.toNat : Int)) = ofBytes l := by
  unfold strOfNums ofBytes
  rw [List.map_map]
  congr 2
  conv => rhs; rw [← List.map_id l]
  apply List.map_congr_left
  intro x _
  simp

theorem own_form {w : World} {base : Nat} {e : TypeId} {size n : Nat} {v : Value} {xs : List Value} (h : w.ownsRow base e size v n xs) : ∃ A c, v = .slice A n c := by
  rcases h.2 with ⟨rfl, rfl⟩ | ⟨g, cap, cur, rfl, _⟩
  · exact ⟨_, _, rfl⟩
  · exact ⟨_, _, rfl⟩
theorem addr_add (g j : Nat) : (⟨g, 0, none⟩ : Addr).add j = ⟨g, j, none⟩ := by unfold Addr.add; split <;> simp_all
/-- 'string(b)' of a slice of bytes that the call owns. -/
theorem convert_own {P : Program} {w : World} {base : Nat} {e src dst : TypeId} {v : Value} {n : Nat} {l : List UInt8} (hs : P.underlying src = some (.slice e)) (he : P.underlying e = some (.int .u8)) (hd : P.underlying dst = some .string)
    (hown : w.ownsRow base e 1 v n (u8s l)) : (convert src dst v).run P w = .ok (.string (ofBytes l)) w := by
  have hl : l.length = n := by have := hown.1; rw [u8s_length] at this; omega
  rcases hown.2 with ⟨rfl, rfl⟩ | ⟨g, cap, cur, rfl, _⟩
  · obtain rfl : l = [] := List.eq_nil_of_length_eq_zero hl
    exact run_convert_bytes_nil w src e hs he 0 0 dst hd
  · have h := run_convert_bytes_arg (P := P) w src e hs he g 0 n cap (l.map fun c => (c.toNat : Int)) (by simp [hl]) (fun i hi => by
      have hc := hown.cells (g := g) rfl i (.int .u8 ((l.map fun c => (c.toNat : Int)).getD i 0)) (by
        have : i < l.length := by omega
        simp [u8s, List.getD, List.getElem?_eq_getElem this])
      rw [addr_add] at hc
      rw [Nat.zero_add]
      exact hc) dst hd
    rw [h, strOfNums_u8]
/-- What an append of one byte leaves. -/
theorem own_push {w : World} {base : Nat} {e : TypeId} {v' : Value} {acc : List UInt8} {x : UInt8} (h : w.ownsRow base e 1 v' (acc.length + 1) (u8s acc ++ [.int .u8 (x.toNat : Int)])) :
    ∃ A c, v' = .slice A (acc ++ [x]).length c ∧ w.ownsRow base e 1 (.slice A (acc ++ [x]).length c) (acc ++ [x]).length (u8s (acc ++ [x])) := by
  obtain ⟨A, c, rfl⟩ := own_form h
  refine ⟨A, c, by simp, ?_⟩
  rw [u8s_append, List.length_append]
  exact h
theorem below_grown {B : Nat} {a w w' : World} {row : Option Nat} (h : Below B a w) (hg : w.grownBy w' row) (hB : B ≤ w.heap.size) (hr : ∀ k, row = some k → B ≤ k) : Below B a w' := h.grown hg hB hr
end Go.Proofs.YtdkinamblobjpaaDoor
