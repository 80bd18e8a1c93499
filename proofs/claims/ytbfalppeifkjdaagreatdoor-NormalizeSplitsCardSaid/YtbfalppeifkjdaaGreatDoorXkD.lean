/- Packed from the texts EscC JsA JsB JsC JsD. -/
import Derived.Test.YtbfalppeifkjdaaGreatDoorXkA
import Derived.Test.YtbfalppeifkjdaaGreatDoorXkB
import Derived.Test.YtbfalppeifkjdaaGreatDoorChecked
import Derived.Lib.AppendStr
import Derived.WalkKit
import Derived.WalkSpells
import Derived.Lib.ValidU
import Derived.Deep.AppendLies
import Derived.Deep.RegionLaw
section
namespace Go.Proofs.YtbfalppeifkjdaaGreatDoor
open Go.RowKit
def eb (r : Int) : List UInt8 := (encZ r).map fun n => UInt8.ofNat n.toNat
end Go.Proofs.YtbfalppeifkjdaaGreatDoor
end
section
namespace Go.Proofs.YtbfalppeifkjdaaGreatDoor
open Go.RowKit
def decL (l : List UInt8) : Nat × Nat := decP (ofBytes l) 0
def vaG : Nat → List UInt8 → Bool
  | 0, _ => true
  | f + 1, l => if l = [] then true else if (decL l).2 = 0 then false else vaG f (l.drop (decL l).2)
def vaL (l : List UInt8) : Bool := vaG l.length l
theorem validGoD_eq : ∀ (f : Nat) (l : List UInt8), Lib.validGoD f l = vaG f l
  | 0, _ => rfl
  | f + 1, l => by
    rw [Lib.validGoD, vaG]
    by_cases hl : l = []
    · rw [if_pos hl, if_pos hl]
    · rw [if_neg hl, if_neg hl]
      have hd : decL l = if Lib.decodeL l = (65533, 1) then (0, 0) else Lib.decodeL l := rfl
      by_cases h : Lib.decodeL l = (65533, 1)
      · rw [if_pos (by rw [h]; exact ⟨rfl, rfl⟩), hd, if_pos h, if_pos rfl]
      · have hn : ¬ ((Lib.decodeL l).1 = 65533 ∧ (Lib.decodeL l).2 = 1) := fun q => h (Prod.ext q.1 q.2)
        have hw := decodeN_ok ((ofBytes l).size - 0) ((ofBytes l).get! 0).toNat ((ofBytes l).get! (0 + 1)).toNat ((ofBytes l).get! (0 + 2)).toNat ((ofBytes l).get! (0 + 3)).toNat (by rw [ofBytes_size]; exact List.length_pos_iff.2 hl)
        rw [← dec_bytes] at hw
        rw [if_neg hn, hd, if_neg h, if_neg (show ¬ (Lib.decodeL l).2 = 0 from fun e => by have : (Lib.decodeL l).2 = (Utf8.decode (ofBytes l) 0).2 := rfl; omega)]
        exact validGoD_eq f _
theorem validD_eq (l : List UInt8) : Lib.validD l = vaL l := validGoD_eq _ _
def letJ (c : Nat) : Nat := if c = 34 ∨ c = 92 then c else if c = 8 then 98 else if c = 9 then 116 else if c = 10 then 110 else if c = 12 then 102 else if c = 13 then 114 else 0
def hexJ (n : Nat) : UInt8 := UInt8.ofNat (if n < 10 then 48 + n else 87 + n)
def itemJ (c : UInt8) : List UInt8 := if letJ c.toNat ≠ 0 then [92, UInt8.ofNat (letJ c.toNat)] else if c.toNat < 32 then [92, 117, 48, 48, hexJ (c.toNat / 16), hexJ (c.toNat % 16)] else [c]
def itemsJ (l : List UInt8) : List UInt8 := l.flatMap itemJ
def quoteJ (l : List UInt8) : List UInt8 := 34 :: (itemsJ l ++ [34])
theorem itemsJ_cons (c : UInt8) (t : List UInt8) : itemsJ (c :: t) = itemJ c ++ itemsJ t := by unfold itemsJ; rw [List.flatMap_cons]
theorem itemJ_len (c : UInt8) : 1 ≤ (itemJ c).length ∧ (itemJ c).length ≤ 6 := by
  unfold itemJ
  repeat' split
  all_goals simp
theorem itemsJ_len : ∀ l : List UInt8, (itemsJ l).length ≤ 6 * l.length
  | [] => by simp [itemsJ]
  | c :: t => by
    have := itemJ_len c
    have := itemsJ_len t
    rw [itemsJ_cons, List.length_append, List.length_cons]
    omega
def hexV (c : UInt8) : Int := if 48 ≤ c.toNat ∧ c.toNat ≤ 57 then (c.toNat : Int) - 48 else if 97 ≤ c.toNat ∧ c.toNat ≤ 102 then (c.toNat : Int) - 87 else if 65 ≤ c.toNat ∧ c.toNat ≤ 70 then (c.toNat : Int) - 55 else -1
def hexGo : List UInt8 → Int → Int
  | [], a => a
  | c :: l, a => if hexV c = -1 then -1 else hexGo l (a * 16 + hexV c)
def unitL (l : List UInt8) : Int := if 6 ≤ l.length ∧ l.getD 0 0 = 92 ∧ l.getD 1 0 = 117 then hexGo ((l.drop 2).take 4) 0 else -1
def meanJ (c : UInt8) : Int := if c.toNat = 34 ∨ c.toNat = 92 ∨ c.toNat = 47 then (c.toNat : Int) else if c.toNat = 98 then 8 else if c.toNat = 102 then 12 else if c.toNat = 110 then 10 else if c.toNat = 114 then 13 else if c.toNat = 116 then 9 else -1
def seqL (l : List UInt8) : Int × Nat :=
  if meanJ (l.getD 1 0) ≠ -1 then (meanJ (l.getD 1 0), 2)
  else if 55296 ≤ unitL l ∧ unitL l ≤ 56319 then
    (if 56320 ≤ unitL (l.drop 6) ∧ unitL (l.drop 6) ≤ 57343 then (65536 + (unitL l - 55296) * 1024 + (unitL (l.drop 6) - 56320), 12) else (0, 0))
  else if unitL l < 0 ∨ (56320 ≤ unitL l ∧ unitL l ≤ 57343) then (0, 0) else (unitL l, 6)
def parF (a : Int) : Nat → Int → List UInt8 → List UInt8 → List UInt8 × Int × Int
  | 0, _, _, _ => ([], a, 8)
  | f + 1, i, l, out =>
    if l = [] then ([], a, 8)
    else if l.getD 0 0 = 34 then (out, i + 1, 0)
    else if l.getD 0 0 = 92 then (if l.length = 1 then ([], a, 8) else if (seqL l).2 = 0 then ([], i, 16) else parF a f (i + (seqL l).2) (l.drop (seqL l).2) (out ++ eb (seqL l).1))
    else if (l.getD 0 0).toNat < 32 then ([], i, 6)
    else if (decL l).2 = 0 then ([], i, 5) else parF a f (i + (decL l).2) (l.drop (decL l).2) (out ++ eb ((decL l).1 : Nat))
def parJ (a i : Int) (l out : List UInt8) : List UInt8 × Int × Int := parF a (l.length + 1) i l out
end Go.Proofs.YtbfalppeifkjdaaGreatDoor
end
section
namespace Go.Proofs.YtbfalppeifkjdaaGreatDoor
open Go.RowKit
theorem quoteJ_len (l : List UInt8) : (quoteJ l).length = (itemsJ l).length + 2 := by unfold quoteJ; simp
end Go.Proofs.YtbfalppeifkjdaaGreatDoor
end
section
namespace Go.Proofs.YtbfalppeifkjdaaGreatDoor
open Go.RowKit Go.Lib
theorem jix (s : ByteArray) (k : IntKind) (i : Int) (n : Nat) (hn : i = (n : Int)) (h1 : n < s.size) (w : World) : (Instr.index 9 (.string s) (.int k i)).run Tryz.prog w = .ok (.int .u8 ((s.data.toList.getD n 0).toNat : Int)) w := by
  subst hn
  have hl : n < s.data.toList.length := by simpa using h1
  have hg : s.data.toList.getD n 0 = s[n]'h1 := by
    rw [List.getD_eq_getElem?_getD, List.getElem?_eq_getElem hl]
    simp [ByteArray.getElem_eq_getElem_data]
  rw [run_index_string (P := Tryz.prog) (w := w) 9 s k (n : Int) Tryz.underlying9, hg]
  simp [h1]
def letZ (c : Int) : Int := if c = 34 ∨ c = 92 then c else if c = 8 then 98 else if c = 9 then 116 else if c = 10 then 110 else if c = 12 then 102 else if c = 13 then 114 else 0
theorem letZ_eq (c : Nat) : ((letJ c : Nat) : Int) = letZ (c : Int) := by
  unfold letJ letZ
  repeat' split
  all_goals omega
theorem jretI {k : IntKind} {a b : Int} (h : a = b) : Ending.returned (.int k a) = .returned (.int k b) := by rw [h]
end Go.Proofs.YtbfalppeifkjdaaGreatDoor
end
section
namespace Go.Proofs.YtbfalppeifkjdaaGreatDoor
open Go.RowKit Go.Lib
theorem jinfo_u8 : (Tryz.prog.info? 5).map (fun i => (i.zero, i.size, i.bytes)) = some (some (.int .u8 0), 1, 1) := by kernel_rfl
theorem jrow_below {B : Nat} {e : TypeId} {k : Nat} {v : Value} {n : Nat} {xs : List Value} {w w' : World} (h : w.ownsRow B e k v n xs) (hb : Below w.heap.size w w') : w'.ownsRow B e k v n xs := by
  refine ⟨h.1, ?_⟩
  rcases h.2 with h0 | ⟨g, cap, cur, hv, hB, hg, rest⟩
  · exact .inl h0
  · have hlt : g < w.heap.size := (Array.getElem?_eq_some_iff.1 hg).1
    exact .inr ⟨g, cap, cur, hv, hB, (hb.block g hlt).trans hg, rest⟩
theorem jnews (w : World) (t : TypeId) (cs : List Value) (A : Array Value) (hA : A = cs.toArray) : ∀ j u, cs[j]? = some u → (w.alloc (.cells A t)).cell? ((⟨w.heap.size, 0, none⟩ : Addr).add j) = some u := by
  intro j u hu
  subst hA
  rw [addr_add, World.cell?_alloc_at _ _ _ _ rfl, List.getElem?_toArray]
  exact hu
theorem jnewsD (w : World) (t : TypeId) (cs : List Value) (A : Array Value) (hA : A = cs.toArray) : ∀ j u, cs[j]? = some u → (w.alloc (.cells A t)).drew.cell? ((⟨w.heap.size, 0, none⟩ : Addr).add j) = some u := fun j u hu => jnews w t cs A hA j u hu
theorem jrow_app {w : World} {B : Nat} {e : TypeId} {g cap m n : Nat} {acc l : List UInt8} {vs : List Value} (hv : u8s l = vs) (hn : acc.length + m = n) (hm : l.length = m)
    (h : w.ownsRow B e 1 (.slice (some ⟨g, 0, none⟩) n cap) n (u8s acc ++ vs)) : w.ownsRow B e 1 (.slice (some ⟨g, 0, none⟩) (acc ++ l).length cap) (acc ++ l).length (u8s (acc ++ l)) := by
  subst hv hm hn
  rw [u8s_append, List.length_append]
  exact h
theorem item_two (x : UInt8) (z : Int) (hz : (x.toNat : Int) = z) (h : letZ z ≠ 0) : u8s (itemJ x) = [.int .u8 92, .int .u8 (letZ z)] ∧ (itemJ x).length = 2 := by
  subst hz
  have hl := letZ_eq x.toNat
  have hb : letJ x.toNat < 256 := by
    have := x.toNat_lt
    unfold letJ
    repeat' split
    all_goals omega
  have hi : itemJ x = [92, UInt8.ofNat (letJ x.toNat)] := by unfold itemJ; rw [if_pos (by omega)]
  rw [hi]
  refine ⟨?_, rfl⟩
  simp only [u8s, List.map_cons, List.map_nil, UInt8.toNat_ofNat', Nat.mod_eq_of_lt hb, hl]
  rfl
set_option maxRecDepth 100000 in
theorem hexJ_lt : ∀ n : Fin 16, (hexJ n.val).toNat = if n.val < 10 then 48 + n.val else 87 + n.val := by decide
def hexZ (n : Int) : Int := if n < 10 then 48 + n else 87 + n
theorem hexJ_eq (n : Nat) (h : n < 16) : ((hexJ n).toNat : Int) = hexZ (n : Int) := by
  have := hexJ_lt ⟨n, h⟩
  simp only at this
  unfold hexZ
  rw [this]
  repeat' split
  all_goals omega
theorem item_six (x : UInt8) (z : Int) (hz : (x.toNat : Int) = z) (h : letZ z = 0) (h32 : z < 32) : u8s (itemJ x) = [.int .u8 92, .int .u8 117, .int .u8 48, .int .u8 48, .int .u8 (hexZ (z / 16)), .int .u8 (hexZ (z % 16))] ∧ (itemJ x).length = 6 := by
  subst hz
  have hl := letZ_eq x.toNat
  have hi : itemJ x = [92, 117, 48, 48, hexJ (x.toNat / 16), hexJ (x.toNat % 16)] := by unfold itemJ; rw [if_neg (by omega), if_pos (by omega)]
  rw [hi]
  refine ⟨?_, rfl⟩
  simp only [u8s, List.map_cons, List.map_nil]
  rw [hexJ_eq _ (by omega), hexJ_eq _ (by omega), show ((x.toNat / 16 : Nat) : Int) = (x.toNat : Int) / 16 by omega, show ((x.toNat % 16 : Nat) : Int) = (x.toNat : Int) % 16 by omega]
  rfl
theorem item_one (x : UInt8) (z : Int) (hz : (x.toNat : Int) = z) (h : letZ z = 0) (h32 : ¬ z < 32) : u8s (itemJ x) = [.int .u8 z] ∧ (itemJ x).length = 1 := by
  subst hz
  have hl := letZ_eq x.toNat
  have hi : itemJ x = [x] := by unfold itemJ; rw [if_neg (by omega), if_neg (by omega)]
  rw [hi]
  exact ⟨rfl, rfl⟩
set_option maxRecDepth 100000 in
theorem hex_at : ∀ (n : Fin 16) (k : IntKind) (w : World), (Instr.index 9 (.string ⟨#[48, 49, 50, 51, 52, 53, 54, 55, 56, 57, 97, 98, 99, 100, 101, 102]⟩) (.int k (n.val : Int))).run Tryz.prog w = .ok (.int .u8 (hexZ (n.val : Int))) w := by
  intro n k w
  have := jix ⟨#[48, 49, 50, 51, 52, 53, 54, 55, 56, 57, 97, 98, 99, 100, 101, 102]⟩ k (n.val : Int) n.val rfl n.isLt w
  rw [this]
  match n with
  | ⟨0, _⟩ => rfl
  | ⟨1, _⟩ => rfl
  | ⟨2, _⟩ => rfl
  | ⟨3, _⟩ => rfl
  | ⟨4, _⟩ => rfl
  | ⟨5, _⟩ => rfl
  | ⟨6, _⟩ => rfl
  | ⟨7, _⟩ => rfl
  | ⟨8, _⟩ => rfl
  | ⟨9, _⟩ => rfl
  | ⟨10, _⟩ => rfl
  | ⟨11, _⟩ => rfl
  | ⟨12, _⟩ => rfl
  | ⟨13, _⟩ => rfl
  | ⟨14, _⟩ => rfl
  | ⟨15, _⟩ => rfl
  | ⟨j + 16, h⟩ => exact absurd h (by omega)
theorem hex_atZ (z : Int) (h0 : 0 ≤ z) (h1 : z < 16) (k : IntKind) (w : World) : (Instr.index 9 (.string ⟨#[48, 49, 50, 51, 52, 53, 54, 55, 56, 57, 97, 98, 99, 100, 101, 102]⟩) (.int k z)).run Tryz.prog w = .ok (.int .u8 (hexZ z)) w := by
  obtain ⟨n, rfl⟩ := Int.eq_ofNat_of_zero_le h0
  exact hex_at ⟨n, by omega⟩ k w
theorem jretQ {a b : List UInt8} {n : Int} {p : List UInt8 × Int} (h : p = (a, n)) (hb : b = a) : Ending.returned (.tuple #[.string (ofBytes b), .int .i64 n]) = .returned (.tuple #[.string (ofBytes p.1), .int .i64 p.2]) := by subst h hb; rfl
def quoteP (l : List UInt8) : List UInt8 × Int := if vaL l = true then (quoteJ l, 0) else ([], 5)
end Go.Proofs.YtbfalppeifkjdaaGreatDoor
end
