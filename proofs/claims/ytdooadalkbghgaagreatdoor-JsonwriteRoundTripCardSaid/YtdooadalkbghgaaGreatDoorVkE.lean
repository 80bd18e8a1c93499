/- Packed from the texts JsC JsD JsE. -/
import Derived.Test.YtdooadalkbghgaaGreatDoorVkB
import Derived.Test.YtdooadalkbghgaaGreatDoorVkC
import Derived.Test.YtdooadalkbghgaaGreatDoorVkD
import Derived.Deep.AppendLies
import Derived.Deep.RegionLaw
section
namespace Go.Proofs.YtdooadalkbghgaaGreatDoor
open Go.RowKit Go.Lib
theorem jix (s : ByteArray) (k : IntKind) (i : Int) (n : Nat) (hn : i = (n : Int)) (h1 : n < s.size) (w : World) : (Instr.index 9 (.string s) (.int k i)).run Tryz.prog w = .ok (.int .u8 ((s.data.toList.getD n 0).toNat : Int)) w := by
  subst hn
  have hl : n < s.data.toList.length := by simpa using h1
  have hg : s.data.toList.getD n 0 = s[n]'h1 := by
    rw [List.getD_eq_getElem?_getD, List.getElem?_eq_getElem hl]
    simp [ByteArray.getElem_eq_getElem_data]
  rw [run_index_string (P := Tryz.prog) (w := w) 9 s k (n : Int) Tryz.underlying9, hg]
  simp [h1]
theorem j_getD (l : List UInt8) (k j : Nat) : (l.drop k).getD j 0 = l.getD (k + j) 0 := by
  rw [List.getD_eq_getElem?_getD, List.getD_eq_getElem?_getD, List.getElem?_drop]
theorem u8_at (x n : UInt8) : x = n ↔ (x.toNat : Int) = (n.toNat : Int) := ⟨fun h => by rw [h], fun h => UInt8.toNat_inj.1 (by omega)⟩
def letZ (c : Int) : Int := if c = 34 ∨ c = 92 then c else if c = 8 then 98 else if c = 9 then 116 else if c = 10 then 110 else if c = 12 then 102 else if c = 13 then 114 else 0
theorem letZ_eq (c : Nat) : ((letJ c : Nat) : Int) = letZ (c : Int) := by
  unfold letJ letZ
  repeat' split
  all_goals omega
theorem jretI {k : IntKind} {a b : Int} (h : a = b) : Ending.returned (.int k a) = .returned (.int k b) := by rw [h]
set_option maxRecDepth 100000 in
set_option maxHeartbeats 8000000 in
theorem jref_Valid (s : ByteArray) (w : World) (hs : s.size ≤ 1000000) :
    Calls Tryz.prog 25 #[.string s] w fun e w' => e = .returned (.bool (vaL s.data.toList)) ∧ Below w.heap.size w w' := by
  have HSL := Lib.hid (show s.data.toList.length = s.size by simp)
  go_enter Tryz.func25, Tryz.ntmps25
  go_wp2
  go_loopw [3] (fun q wr => ∃ k : Nat, k ≤ s.size ∧ q = .int .i64 k ∧ vaL s.data.toList = vaL (s.data.toList.drop k) ∧ Below w.heap.size w wr) (fun q _ => s.size - (RowKit.intOf q).toNat)
  case atStart => exact ⟨0, by omega, rfl, rfl, Below.refl _ _⟩
  case round =>
    obtain ⟨k, hk, rfl, hrel, hbel⟩ := hrel
    have hz := hbel.size
    by_cases hlt : k < s.size
    · have hdl : (s.data.toList.drop k).length = s.size - k := by rw [List.length_drop, HSL.out]
      have hne : s.data.toList.drop k ≠ [] := fun e => by rw [e] at hdl; simp at hdl; omega
      have cD : ∀ wx, _ := fun wx => ref_Decode s (k : Int) wx (by unfold maxLen; omega)
      rw [decI_at s k hlt, decP_drop s k (by omega)] at cD
      rw [vaL_eq _ hne, List.drop_drop] at hrel
      have hok := decL_ok _ hne
      rw [hdl] at hok
      clear hne hdl
      generalize decL (s.data.toList.drop k) = d at *
      obtain ⟨r, n⟩ := d
      simp only at cD hrel hok
      obtain ⟨hn1, hn2, _, _⟩ := hok
      rcases Nat.eq_zero_or_pos n with rfl | h0
      · rw [if_pos rfl] at hrel
        have HR := Lib.hid hrel
        clear hrel
        go_wp2_with fail
        refine (cD _).mono ?_
        rintro e w1 ⟨rfl, b1⟩
        go_wp2
        go_ret
        exact ⟨retb HR.out.symm, hbel.trans (b1.mono hz)⟩
      · rw [if_neg (by omega)] at hrel
        have HR := Lib.hid hrel
        have hnz : (n : Int) ≠ 0 := by omega
        clear hrel
        go_wp2_with fail
        refine (cD _).mono ?_
        rintro e w1 ⟨rfl, b1⟩
        go_wp2
        go_roundw
        case rel => exact ⟨k + n, by omega, by go_num, HR.out, hbel.trans (b1.mono hz)⟩
        case measure => simp [RowKit.intOf]; omega
    · obtain rfl : k = s.size := by omega
      rw [List.drop_eq_nil_of_le (by have := HSL.out; omega), vaL_nil] at hrel
      have HR := Lib.hid hrel
      clear hrel
      go_wp2
      go_ret
      exact ⟨retb HR.out.symm, hbel⟩
def hexB : Nat → Int | 0 => 1 | 1 => 16 | 2 => 256 | 3 => 4096 | _ => 65536
theorem hexB_step : ∀ (k : Nat) (m v : Int), k < 4 → m < hexB k → v ≤ 15 → m * 16 + v < hexB (k + 1)
  | 0, m, v, _, h, hv => by simp only [hexB] at *; omega
  | 1, m, v, _, h, hv => by simp only [hexB] at *; omega
  | 2, m, v, _, h, hv => by simp only [hexB] at *; omega
  | 3, m, v, _, h, hv => by simp only [hexB] at *; omega
  | k + 4, _, _, h, _, _ => by omega
theorem hexB_le : ∀ k : Nat, hexB k ≤ 65536
  | 0 => by decide
  | 1 => by decide
  | 2 => by decide
  | 3 => by decide
  | k + 4 => by simp [hexB]
end Go.Proofs.YtdooadalkbghgaaGreatDoor
end
section
namespace Go.Proofs.YtdooadalkbghgaaGreatDoor
open Go.RowKit Go.Lib
theorem jinfo_u8 : (Tryz.prog.info? 5).map (fun i => (i.zero, i.size, i.bytes)) = some (some (.int .u8 0), 1, 1) := by kernel_rfl
theorem jrow_below {B : Nat} {e : TypeId} {k : Nat} {v : Value} {n : Nat} {xs : List Value} {w w' : World} (h : w.ownsRow B e k v n xs) (hb : Below w.heap.size w w') : w'.ownsRow B e k v n xs := by
  refine ⟨h.1, ?_⟩
  rcases h.2 with h0 | ⟨g, cap, cur, hv, hB, hg, rest⟩
  · exact .inl h0
  · have hlt : g < w.heap.size := (Array.getElem?_eq_some_iff.1 hg).1
    exact .inr ⟨g, cap, cur, hv, hB, (hb.block g hlt).trans hg, rest⟩
theorem jnews (w : World) (t : TypeId) (cs : List Value) (A : Array Value) (hA : A = cs.toArray) : ∀ j u, cs[j]? = some u → (w.alloc (.cells A t)).cell? ((⟨w.heap.size, 0, none⟩ : Addr).add j) = some u := by
  intro j u hu
  subst hA
  rw [addr_add, World.cell?_alloc_at _ _ _ _ rfl, List.getElem?_toArray]
  exact hu
theorem jnewsD (w : World) (t : TypeId) (cs : List Value) (A : Array Value) (hA : A = cs.toArray) : ∀ j u, cs[j]? = some u → (w.alloc (.cells A t)).drew.cell? ((⟨w.heap.size, 0, none⟩ : Addr).add j) = some u := fun j u hu => jnews w t cs A hA j u hu
theorem jrow_app {w : World} {B : Nat} {e : TypeId} {g cap m n : Nat} {acc l : List UInt8} {vs : List Value} (hv : u8s l = vs) (hn : acc.length + m = n) (hm : l.length = m)
    (h : w.ownsRow B e 1 (.slice (some ⟨g, 0, none⟩) n cap) n (u8s acc ++ vs)) : w.ownsRow B e 1 (.slice (some ⟨g, 0, none⟩) (acc ++ l).length cap) (acc ++ l).length (u8s (acc ++ l)) := by
  subst hv hm hn
  rw [u8s_append, List.length_append]
  exact h
theorem item_two (x : UInt8) (z : Int) (hz : (x.toNat : Int) = z) (h : letZ z ≠ 0) : u8s (itemJ x) = [.int .u8 92, .int .u8 (letZ z)] ∧ (itemJ x).length = 2 := by
  subst hz
  have hl := letZ_eq x.toNat
  have hb : letJ x.toNat < 256 := by
    have := x.toNat_lt
    unfold letJ
    repeat' split
    all_goals omega
  have hi : itemJ x = [92, UInt8.ofNat (letJ x.toNat)] := by unfold itemJ; rw [if_pos (by omega)]
  rw [hi]
  refine ⟨?_, rfl⟩
  simp only [u8s, List.map_cons, List.map_nil, UInt8.toNat_ofNat', Nat.mod_eq_of_lt hb, hl]
  rfl
set_option maxRecDepth 100000 in
theorem hexJ_lt : ∀ n : Fin 16, (hexJ n.val).toNat = if n.val < 10 then 48 + n.val else 87 + n.val := by decide
def hexZ (n : Int) : Int := if n < 10 then 48 + n else 87 + n
theorem hexJ_eq (n : Nat) (h : n < 16) : ((hexJ n).toNat : Int) = hexZ (n : Int) := by
  have := hexJ_lt ⟨n, h⟩
  simp only at this
  unfold hexZ
  rw [this]
  repeat' split
  all_goals omega
theorem item_six (x : UInt8) (z : Int) (hz : (x.toNat : Int) = z) (h : letZ z = 0) (h32 : z < 32) : u8s (itemJ x) = [.int .u8 92, .int .u8 117, .int .u8 48, .int .u8 48, .int .u8 (hexZ (z / 16)), .int .u8 (hexZ (z % 16))] ∧ (itemJ x).length = 6 := by
  subst hz
  have hl := letZ_eq x.toNat
  have hi : itemJ x = [92, 117, 48, 48, hexJ (x.toNat / 16), hexJ (x.toNat % 16)] := by unfold itemJ; rw [if_neg (by omega), if_pos (by omega)]
  rw [hi]
  refine ⟨?_, rfl⟩
  simp only [u8s, List.map_cons, List.map_nil]
  rw [hexJ_eq _ (by omega), hexJ_eq _ (by omega), show ((x.toNat / 16 : Nat) : Int) = (x.toNat : Int) / 16 by omega, show ((x.toNat % 16 : Nat) : Int) = (x.toNat : Int) % 16 by omega]
  rfl
theorem item_one (x : UInt8) (z : Int) (hz : (x.toNat : Int) = z) (h : letZ z = 0) (h32 : ¬ z < 32) : u8s (itemJ x) = [.int .u8 z] ∧ (itemJ x).length = 1 := by
  subst hz
  have hl := letZ_eq x.toNat
  have hi : itemJ x = [x] := by unfold itemJ; rw [if_neg (by omega), if_neg (by omega)]
  rw [hi]
  exact ⟨rfl, rfl⟩
set_option maxRecDepth 100000 in
theorem hex_at : ∀ (n : Fin 16) (k : IntKind) (w : World), (Instr.index 9 (.string ⟨#[48, 49, 50, 51, 52, 53, 54, 55, 56, 57, 97, 98, 99, 100, 101, 102]⟩) (.int k (n.val : Int))).run Tryz.prog w = .ok (.int .u8 (hexZ (n.val : Int))) w := by
  intro n k w
  have := jix ⟨#[48, 49, 50, 51, 52, 53, 54, 55, 56, 57, 97, 98, 99, 100, 101, 102]⟩ k (n.val : Int) n.val rfl n.isLt w
  rw [this]
  match n with
  | ⟨0, _⟩ => rfl
  | ⟨1, _⟩ => rfl
  | ⟨2, _⟩ => rfl
  | ⟨3, _⟩ => rfl
  | ⟨4, _⟩ => rfl
  | ⟨5, _⟩ => rfl
  | ⟨6, _⟩ => rfl
  | ⟨7, _⟩ => rfl
  | ⟨8, _⟩ => rfl
  | ⟨9, _⟩ => rfl
  | ⟨10, _⟩ => rfl
  | ⟨11, _⟩ => rfl
  | ⟨12, _⟩ => rfl
  | ⟨13, _⟩ => rfl
  | ⟨14, _⟩ => rfl
  | ⟨15, _⟩ => rfl
  | ⟨j + 16, h⟩ => exact absurd h (by omega)
theorem hex_atZ (z : Int) (h0 : 0 ≤ z) (h1 : z < 16) (k : IntKind) (w : World) : (Instr.index 9 (.string ⟨#[48, 49, 50, 51, 52, 53, 54, 55, 56, 57, 97, 98, 99, 100, 101, 102]⟩) (.int k z)).run Tryz.prog w = .ok (.int .u8 (hexZ z)) w := by
  obtain ⟨n, rfl⟩ := Int.eq_ofNat_of_zero_le h0
  exact hex_at ⟨n, by omega⟩ k w
theorem jretQ {a b : List UInt8} {n : Int} {p : List UInt8 × Int} (h : p = (a, n)) (hb : b = a) : Ending.returned (.tuple #[.string (ofBytes b), .int .i64 n]) = .returned (.tuple #[.string (ofBytes p.1), .int .i64 p.2]) := by subst h hb; rfl
def quoteP (l : List UInt8) : List UInt8 × Int := if vaL l = true then (quoteJ l, 0) else ([], 5)
end Go.Proofs.YtdooadalkbghgaaGreatDoor
end
section
namespace Go.Proofs.YtdooadalkbghgaaGreatDoor
open Go.RowKit
theorem jretP {a : List UInt8} {b c : Int} {p : List UInt8 × Int × Int} (h : p = (a, b, c)) : Ending.returned (.tuple #[.string (ofBytes a), .int .i64 b, .int .i64 c]) = .returned (.tuple #[.string (ofBytes p.1), .int .i64 p.2.1, .int .i64 p.2.2]) := by subst h; rfl
end Go.Proofs.YtdooadalkbghgaaGreatDoor
end
