/- Packed from the texts JvN JvC JvQ. -/
import Derived.Test.YtggfblodjanfkaaGreatDoorVkC
import Derived.Test.YtggfblodjanfkaaGreatDoorVkD
import Derived.Test.YtggfblodjanfkaaGreatDoorVkE
import Derived.Test.YtggfblodjanfkaaGreatDoorVkJ
import Derived.Deep.QuietTactic
import Derived.BigQuiet
import Derived.WalkSmall
section
namespace Go.Proofs.YtggfblodjanfkaaGreatDoor
open Go.RowKit
def dvalN : List UInt8 → Nat → Option Nat
  | [], u => some u
  | c :: r, u => if 48 ≤ c.toNat ∧ c.toNat ≤ 57 then dvalN r (u * 10 + (c.toNat - 48)) else none
def jnumD (g : Bool) (l : List UInt8) : Option Int :=
  if l = [] ∨ 19 < l.length ∨ (1 < l.length ∧ l.getD 0 0 = 48) then none
  else match dvalN l 0 with
    | none => none
    | some u => if g then (if u ≤ 9223372036854775808 then some (-(u : Int)) else none) else if u < 9223372036854775808 then some (u : Int) else none
def jnumL (l : List UInt8) : Option Int := if l.getD 0 0 = 45 then jnumD true l.tail else jnumD false l
theorem jnumL_neg (l : List UInt8) (h : l.getD 0 0 = 45) : jnumL l = jnumD true l.tail := by unfold jnumL; rw [if_pos h]
theorem jnumL_pos (l : List UInt8) (h : ¬ l.getD 0 0 = 45) : jnumL l = jnumD false l := by unfold jnumL; rw [if_neg h]
theorem jnumD_ok (g : Bool) (l : List UInt8) (h : ¬ (l = [] ∨ 19 < l.length ∨ (1 < l.length ∧ l.getD 0 0 = 48))) : jnumD g l = match dvalN l 0 with
    | none => none
    | some u => if g then (if u ≤ 9223372036854775808 then some (-(u : Int)) else none) else if u < 9223372036854775808 then some (u : Int) else none := by unfold jnumD; rw [if_neg h]
end Go.Proofs.YtggfblodjanfkaaGreatDoor
end
section
namespace Go.Proofs.YtggfblodjanfkaaGreatDoor
open Go.RowKit
def jnumB (c : Int) : Bool := decide (48 ≤ c ∧ c ≤ 57 ∨ c = 43 ∨ c = 45 ∨ c = 46 ∨ c = 101 ∨ c = 69)
end Go.Proofs.YtggfblodjanfkaaGreatDoor
end
section
namespace Go.Proofs.YtggfblodjanfkaaGreatDoor
open Go.RowKit
inductive Jres where
  | err (a e : Int)
  | ok (v : ValD) (k : Nat)
def Jres.plus (c : Nat) : Jres → Jres
  | .err a e => .err a e
  | .ok v k => .ok v (c + k)
inductive Kres where
  | err (a e : Int)
  | ok (key : List UInt8) (k : Nat)
def spN (l : List UInt8) : Nat := (l.takeWhile spB).length
def wrongK (i : Nat) (l : List UInt8) : Int × Int := if l = [] then (i, 8) else (i, 7)
def leafV (K : Int) (B : Bool) (N : Int) (x : ByteArray) (i : Nat) : ValD := .mk K B N x [] [] i
def wordK (i : Nat) (l t : List UInt8) (K : Int) (B : Bool) : Jres := if t.isPrefixOf l = true then .ok (leafV K B 0 ⟨#[]⟩ i) t.length else .err (wrongK i l).1 (wrongK i l).2
def strK (i : Nat) (l : List UInt8) : Jres :=
  if (parJ i (i + 1) (l.drop 1) []).2.2 ≠ 0 then .err (parJ i (i + 1) (l.drop 1) []).2.1 (parJ i (i + 1) (l.drop 1) []).2.2
  else .ok (leafV 3 false 0 (ofBytes (parJ i (i + 1) (l.drop 1) []).1) i) ((parJ i (i + 1) (l.drop 1) []).2.1 - i).toNat
def numP (c : UInt8) : Bool := jnumB (c.toNat : Int)
def numK (i : Nat) (l : List UInt8) : Jres := match jnumL (l.takeWhile numP) with
  | some n => .ok (leafV 2 false n ⟨#[]⟩ i) (l.takeWhile numP).length
  | none => .err i 15
def keyK (i : Nat) (l : List UInt8) (keys : List ByteArray) : Kres :=
  if l.getD 0 0 ≠ 34 then .err (wrongK i l).1 (wrongK i l).2
  else if (parJ i (i + 1) (l.drop 1) []).2.2 ≠ 0 then .err (parJ i (i + 1) (l.drop 1) []).2.1 (parJ i (i + 1) (l.drop 1) []).2.2
  else if keys.any (fun x => decide (x = ofBytes (parJ i (i + 1) (l.drop 1) []).1)) = true then .err i 10
  else
    let k := ((parJ i (i + 1) (l.drop 1) []).2.1 - i).toNat
    let n := k + spN (l.drop k)
    if [(58 : UInt8)].isPrefixOf (l.drop n) = true then .ok (parJ i (i + 1) (l.drop 1) []).1 (n + 1) else .err (wrongK (i + n) (l.drop n)).1 (wrongK (i + n) (l.drop n)).2
def endB (obj : Bool) : UInt8 := if obj then 125 else 93
def kindB (obj : Bool) : Int := if obj then 5 else 4
mutual
def valK : Nat → Nat → List UInt8 → Nat → Jres
  | 0, i, _, _ => .err i 0
  | f + 1, i, l, d => (headK f (i + spN l) (l.drop (spN l)) d).plus (spN l)
def headK : Nat → Nat → List UInt8 → Nat → Jres
  | 0, i, _, _ => .err i 0
  | f + 1, i, l, d =>
    if l = [] then .err i 8
    else if l.getD 0 0 = 110 then wordK i l [110, 117, 108, 108] 0 false
    else if l.getD 0 0 = 116 then wordK i l [116, 114, 117, 101] 1 true
    else if l.getD 0 0 = 102 then wordK i l [102, 97, 108, 115, 101] 1 false
    else if l.getD 0 0 = 34 then strK i l
    else if l.getD 0 0 = 91 ∨ l.getD 0 0 = 123 then
      (if d > 100 then .err i 9
       else if [endB (decide (l.getD 0 0 = 123))].isPrefixOf (l.drop (1 + spN (l.drop 1))) = true then .ok (.mk (kindB (decide (l.getD 0 0 = 123))) false 0 ⟨#[]⟩ [] [] i) (1 + spN (l.drop 1) + 1)
       else (listK f (decide (l.getD 0 0 = 123)) i [] [] (i + (1 + spN (l.drop 1))) (l.drop (1 + spN (l.drop 1))) d).plus (1 + spN (l.drop 1)))
    else if l.getD 0 0 = 45 ∨ (48 ≤ (l.getD 0 0).toNat ∧ (l.getD 0 0).toNat ≤ 57) then numK i l
    else .err i 7
def listK : Nat → Bool → Nat → List ValD → List MemD → Nat → List UInt8 → Nat → Jres
  | 0, _, _, _, _, i, _, _ => .err i 0
  | f + 1, obj, fr, items, mems, i, l, d =>
    match (if obj then keyK (i + spN l) (l.drop (spN l)) (mems.map MemD.key) else Kres.ok [] 0) with
    | .err a e => .err a e
    | .ok key k =>
      match valK f (i + (spN l + k)) (l.drop (spN l + k)) (d + 1) with
      | .err a e => .err a e
      | .ok v kv =>
        let n := spN l + k + kv + spN (l.drop (spN l + k + kv))
        let items' := if obj then items else items ++ [v]
        let mems' := if obj then mems ++ [.mk (ofBytes key) v (i + spN l : Nat)] else mems
        if [endB obj].isPrefixOf (l.drop n) = true then .ok (.mk (kindB obj) false 0 ⟨#[]⟩ items' mems' fr) (n + 1)
        else if [(44 : UInt8)].isPrefixOf (l.drop n) = true then (listK f obj fr items' mems' (i + (n + 1)) (l.drop (n + 1)) d).plus (n + 1)
        else .err (wrongK (i + n) (l.drop n)).1 (wrongK (i + n) (l.drop n)).2
end
end Go.Proofs.YtggfblodjanfkaaGreatDoor
end
