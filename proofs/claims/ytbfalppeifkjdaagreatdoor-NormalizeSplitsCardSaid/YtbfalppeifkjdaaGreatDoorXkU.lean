/- Packed from the texts JvN JvC JvQ JwA JwP JwD JwF. -/
import Derived.Test.YtbfalppeifkjdaaGreatDoorXkD
import Derived.Test.YtbfalppeifkjdaaGreatDoorXkJ
import Derived.Deep.QuietTactic
import Derived.BigQuiet
import Derived.WalkSmall
import Derived.Lib.ItoaNum
import Derived.Deep.Cut
import Derived.Laws.BytesArg
import Derived.IntWalk
section
namespace Go.Proofs.YtbfalppeifkjdaaGreatDoor
open Go.RowKit
def dvalN : List UInt8 → Nat → Option Nat
  | [], u => some u
  | c :: r, u => if 48 ≤ c.toNat ∧ c.toNat ≤ 57 then dvalN r (u * 10 + (c.toNat - 48)) else none
def jnumD (g : Bool) (l : List UInt8) : Option Int :=
  if l = [] ∨ 19 < l.length ∨ (1 < l.length ∧ l.getD 0 0 = 48) then none
  else match dvalN l 0 with
    | none => none
    | some u => if g then (if u ≤ 9223372036854775808 then some (-(u : Int)) else none) else if u < 9223372036854775808 then some (u : Int) else none
def jnumL (l : List UInt8) : Option Int := if l.getD 0 0 = 45 then jnumD true l.tail else jnumD false l
end Go.Proofs.YtbfalppeifkjdaaGreatDoor
end
section
namespace Go.Proofs.YtbfalppeifkjdaaGreatDoor
open Go.RowKit
def jnumB (c : Int) : Bool := decide (48 ≤ c ∧ c ≤ 57 ∨ c = 43 ∨ c = 45 ∨ c = 46 ∨ c = 101 ∨ c = 69)
end Go.Proofs.YtbfalppeifkjdaaGreatDoor
end
section
namespace Go.Proofs.YtbfalppeifkjdaaGreatDoor
open Go.RowKit
inductive Jres where
  | err (a e : Int)
  | ok (v : ValD) (k : Nat)
def Jres.plus (c : Nat) : Jres → Jres
  | .err a e => .err a e
  | .ok v k => .ok v (c + k)
inductive Kres where
  | err (a e : Int)
  | ok (key : List UInt8) (k : Nat)
def spN (l : List UInt8) : Nat := (l.takeWhile spB).length
def wrongK (i : Nat) (l : List UInt8) : Int × Int := if l = [] then (i, 8) else (i, 7)
def leafV (K : Int) (B : Bool) (N : Int) (x : ByteArray) (i : Nat) : ValD := .mk K B N x [] [] i
def wordK (i : Nat) (l t : List UInt8) (K : Int) (B : Bool) : Jres := if t.isPrefixOf l = true then .ok (leafV K B 0 ⟨#[]⟩ i) t.length else .err (wrongK i l).1 (wrongK i l).2
def strK (i : Nat) (l : List UInt8) : Jres :=
  if (parJ i (i + 1) (l.drop 1) []).2.2 ≠ 0 then .err (parJ i (i + 1) (l.drop 1) []).2.1 (parJ i (i + 1) (l.drop 1) []).2.2
  else .ok (leafV 3 false 0 (ofBytes (parJ i (i + 1) (l.drop 1) []).1) i) ((parJ i (i + 1) (l.drop 1) []).2.1 - i).toNat
def numP (c : UInt8) : Bool := jnumB (c.toNat : Int)
def numK (i : Nat) (l : List UInt8) : Jres := match jnumL (l.takeWhile numP) with
  | some n => .ok (leafV 2 false n ⟨#[]⟩ i) (l.takeWhile numP).length
  | none => .err i 15
def keyK (i : Nat) (l : List UInt8) (keys : List ByteArray) : Kres :=
  if l.getD 0 0 ≠ 34 then .err (wrongK i l).1 (wrongK i l).2
  else if (parJ i (i + 1) (l.drop 1) []).2.2 ≠ 0 then .err (parJ i (i + 1) (l.drop 1) []).2.1 (parJ i (i + 1) (l.drop 1) []).2.2
  else if keys.any (fun x => decide (x = ofBytes (parJ i (i + 1) (l.drop 1) []).1)) = true then .err i 10
  else
    let k := ((parJ i (i + 1) (l.drop 1) []).2.1 - i).toNat
    let n := k + spN (l.drop k)
    if [(58 : UInt8)].isPrefixOf (l.drop n) = true then .ok (parJ i (i + 1) (l.drop 1) []).1 (n + 1) else .err (wrongK (i + n) (l.drop n)).1 (wrongK (i + n) (l.drop n)).2
def endB (obj : Bool) : UInt8 := if obj then 125 else 93
def kindB (obj : Bool) : Int := if obj then 5 else 4
mutual
def valK : Nat → Nat → List UInt8 → Nat → Jres
  | 0, i, _, _ => .err i 0
  | f + 1, i, l, d => (headK f (i + spN l) (l.drop (spN l)) d).plus (spN l)
def headK : Nat → Nat → List UInt8 → Nat → Jres
  | 0, i, _, _ => .err i 0
  | f + 1, i, l, d =>
    if l = [] then .err i 8
    else if l.getD 0 0 = 110 then wordK i l [110, 117, 108, 108] 0 false
    else if l.getD 0 0 = 116 then wordK i l [116, 114, 117, 101] 1 true
    else if l.getD 0 0 = 102 then wordK i l [102, 97, 108, 115, 101] 1 false
    else if l.getD 0 0 = 34 then strK i l
    else if l.getD 0 0 = 91 ∨ l.getD 0 0 = 123 then
      (if d > 100 then .err i 9
       else if [endB (decide (l.getD 0 0 = 123))].isPrefixOf (l.drop (1 + spN (l.drop 1))) = true then .ok (.mk (kindB (decide (l.getD 0 0 = 123))) false 0 ⟨#[]⟩ [] [] i) (1 + spN (l.drop 1) + 1)
       else (listK f (decide (l.getD 0 0 = 123)) i [] [] (i + (1 + spN (l.drop 1))) (l.drop (1 + spN (l.drop 1))) d).plus (1 + spN (l.drop 1)))
    else if l.getD 0 0 = 45 ∨ (48 ≤ (l.getD 0 0).toNat ∧ (l.getD 0 0).toNat ≤ 57) then numK i l
    else .err i 7
def listK : Nat → Bool → Nat → List ValD → List MemD → Nat → List UInt8 → Nat → Jres
  | 0, _, _, _, _, i, _, _ => .err i 0
  | f + 1, obj, fr, items, mems, i, l, d =>
    match (if obj then keyK (i + spN l) (l.drop (spN l)) (mems.map MemD.key) else Kres.ok [] 0) with
    | .err a e => .err a e
    | .ok key k =>
      match valK f (i + (spN l + k)) (l.drop (spN l + k)) (d + 1) with
      | .err a e => .err a e
      | .ok v kv =>
        let n := spN l + k + kv + spN (l.drop (spN l + k + kv))
        let items' := if obj then items else items ++ [v]
        let mems' := if obj then mems ++ [.mk (ofBytes key) v (i + spN l : Nat)] else mems
        if [endB obj].isPrefixOf (l.drop n) = true then .ok (.mk (kindB obj) false 0 ⟨#[]⟩ items' mems' fr) (n + 1)
        else if [(44 : UInt8)].isPrefixOf (l.drop n) = true then (listK f obj fr items' mems' (i + (n + 1)) (l.drop (n + 1)) d).plus (n + 1)
        else .err (wrongK (i + n) (l.drop n)).1 (wrongK (i + n) (l.drop n)).2
end
end Go.Proofs.YtbfalppeifkjdaaGreatDoor
end
section
namespace Go.Proofs.YtbfalppeifkjdaaGreatDoor
open Go.RowKit
def properB (v : ValD) : Bool := decide ((0 ≤ v.kind ∧ v.kind ≤ 5) ∧ (v.kind = 1 ∨ v.b = false) ∧ (v.kind = 2 ∨ v.n = 0) ∧ (v.kind = 3 ∨ v.s.size = 0) ∧ (v.kind = 4 ∨ v.items.length = 0) ∧ (v.kind = 5 ∨ v.mems.length = 0))
mutual
def ValD.okB : ValD → Bool
  | .mk k b n s items mems a => properB (.mk k b n s items mems a) && (vaL s.data.toList && (okVs items && okMs [] mems))
def okVs : List ValD → Bool
  | [] => true
  | k :: r => k.okB && okVs r
def okMs : List ByteArray → List MemD → Bool
  | _, [] => true
  | keys, m :: r => (!(keys.any fun x => decide (x = m.key)) && (vaL m.key.data.toList && m.okB)) && okMs (keys ++ [m.key]) r
def MemD.okB : MemD → Bool
  | .mk _ v _ => v.okB
end
theorem vok_eq (v : ValD) : v.okB = (properB v && (vaL v.s.data.toList && (okVs v.items && okMs [] v.mems))) := by cases v; rw [ValD.okB]; rfl
theorem mok_eq (m : MemD) : m.okB = m.v.okB := by cases m; rw [MemD.okB]; rfl
mutual
def ValD.vdB : ValD → Nat → Bool
  | .mk k b n s items mems a, d => decide (d ≤ 100) && (properB (.mk k b n s items mems a) && (vaL s.data.toList && (vdVs items (d + 1) && vdMs [] mems (d + 1))))
def vdVs : List ValD → Nat → Bool
  | [], _ => true
  | k :: r, d => k.vdB d && vdVs r d
def vdMs : List ByteArray → List MemD → Nat → Bool
  | _, [], _ => true
  | keys, m :: r, d => (!(keys.any fun x => decide (x = m.key)) && (vaL m.key.data.toList && m.vdB d)) && vdMs (keys ++ [m.key]) r d
def MemD.vdB : MemD → Nat → Bool
  | .mk _ v _, d => v.vdB d
end
theorem vvd_eq (v : ValD) (d : Nat) : v.vdB d = (decide (d ≤ 100) && (properB v && (vaL v.s.data.toList && (vdVs v.items (d + 1) && vdMs [] v.mems (d + 1))))) := by cases v; rw [ValD.vdB]; rfl
theorem mvd_eq (m : MemD) (d : Nat) : m.vdB d = m.v.vdB d := by cases m; rw [MemD.vdB]; rfl
theorem vdepths_max : ∀ (l : List ValD) (m : Nat), vdepths l m = max m (vdepths l 0)
  | [], m => by rw [vdepths, vdepths]; omega
  | k :: r, m => by
    rw [vdepths, vdepths, vdepths_max r (max m k.depth), vdepths_max r (max 0 k.depth)]
    omega
theorem mdepths_max : ∀ (l : List MemD) (m : Nat), mdepths l m = max m (mdepths l 0)
  | [], m => by rw [mdepths, mdepths]; omega
  | k :: r, m => by
    rw [mdepths, mdepths, mdepths_max r (max m k.depth), mdepths_max r (max 0 k.depth)]
    omega
mutual
theorem vvd_split : ∀ (v : ValD) (d : Nat), v.vdB d = (v.okB && decide (v.depth + d ≤ 101))
  | .mk k b n s items mems a, d => by
    rw [ValD.vdB, ValD.okB]
    by_cases hd : d ≤ 100
    · rw [decide_eq_true hd, Bool.true_and, vdVs_split items (d + 1) (by omega), vdMs_split [] mems (d + 1) (by omega)]
      rcases hp : properB (.mk k b n s items mems a) with _ | _
      · simp
      · have hp := of_decide_eq_true (show decide _ = true from hp)
        simp only [ValD.kind, ValD.items, ValD.mems, ValD.n, ValD.b, ValD.s] at hp
        obtain ⟨-, -, -, -, h4, h5⟩ := hp
        rw [ValD.depth]
        have hi : k ≠ 4 → items = [] := fun h => List.length_eq_zero_iff.1 (h4.resolve_left h)
        have hm : k ≠ 5 → mems = [] := fun h => List.length_eq_zero_iff.1 (h5.resolve_left h)
        by_cases h4' : k = 4
        · obtain rfl := hm (by omega)
          rw [if_pos h4']
          rw [show mdepths [] 0 = 0 from rfl, show vdepths items 0 + 1 + d = vdepths items 0 + (d + 1) by omega]
          rw [show decide (0 + (d + 1) ≤ 101) = true from decide_eq_true (by omega)]
          simp only [Bool.true_and, Bool.and_true, Bool.and_assoc]
          rcases vaL s.data.toList <;> rcases okVs items <;> rcases okMs [] ([] : List MemD) <;> simp
        · obtain rfl := hi h4'
          rw [if_neg h4']
          rw [show vdepths [] 0 = 0 from rfl, show decide (0 + (d + 1) ≤ 101) = true from decide_eq_true (by omega)]
          by_cases h5' : k = 5
          · rw [if_pos h5', show mdepths mems 0 + 1 + d = mdepths mems 0 + (d + 1) by omega]
            simp only [Bool.true_and, Bool.and_true, Bool.and_assoc]
          · obtain rfl := hm h5'
            rw [if_neg h5', show mdepths [] 0 = 0 from rfl, show decide (0 + (d + 1) ≤ 101) = true from decide_eq_true (by omega), show decide (0 + 1 + d ≤ 101) = true from decide_eq_true (by omega)]
            simp only [Bool.true_and, Bool.and_true]
    · have : 1 ≤ (ValD.mk k b n s items mems a).depth := by rw [ValD.depth]; omega
      rw [decide_eq_false hd, Bool.false_and, decide_eq_false (by omega), Bool.and_false]
theorem vdVs_split : ∀ (l : List ValD) (d : Nat), d ≤ 101 → vdVs l d = (okVs l && decide (vdepths l 0 + d ≤ 101))
  | [], d, h => by rw [vdVs, okVs, vdepths, decide_eq_true (by omega)]; rfl
  | k :: r, d, h => by
    rw [vdVs, okVs, vdepths, vvd_split k d, vdVs_split r d h, vdepths_max r (max 0 k.depth)]
    have : decide (max (max 0 k.depth) (vdepths r 0) + d ≤ 101) = (decide (k.depth + d ≤ 101) && decide (vdepths r 0 + d ≤ 101)) := by
      rw [← Bool.decide_and]
      congr 1
      rw [eq_iff_iff]
      omega
    rw [this]
    rcases k.okB <;> rcases okVs r <;> simp
theorem vdMs_split : ∀ (keys : List ByteArray) (l : List MemD) (d : Nat), d ≤ 101 → vdMs keys l d = (okMs keys l && decide (mdepths l 0 + d ≤ 101))
  | keys, [], d, h => by rw [vdMs, okMs, mdepths, decide_eq_true (by omega)]; rfl
  | keys, m :: r, d, h => by
    rw [vdMs, okMs, mdepths, mvd_split m d, vdMs_split (keys ++ [m.key]) r d h, mdepths_max r (max 0 m.depth)]
    have : decide (max (max 0 m.depth) (mdepths r 0) + d ≤ 101) = (decide (m.depth + d ≤ 101) && decide (mdepths r 0 + d ≤ 101)) := by
      rw [← Bool.decide_and]
      congr 1
      rw [eq_iff_iff]
      omega
    rw [this]
    rcases m.okB <;> rcases okMs (keys ++ [m.key]) r <;> simp [Bool.and_assoc]
theorem mvd_split : ∀ (m : MemD) (d : Nat), m.vdB d = (m.okB && decide (m.depth + d ≤ 101))
  | .mk key v a, d => by rw [MemD.vdB, MemD.okB, MemD.depth, vvd_split v d]
end
mutual
def ValD.R64 : ValD → Prop
  | .mk _ _ n _ items mems _ => (-9223372036854775808 ≤ n ∧ n ≤ 9223372036854775807) ∧ R64s items ∧ R64m mems
def R64s : List ValD → Prop
  | [] => True
  | k :: r => k.R64 ∧ R64s r
def R64m : List MemD → Prop
  | [] => True
  | m :: r => m.R64 ∧ R64m r
def MemD.R64 : MemD → Prop
  | .mk _ v _ => v.R64
end
theorem vr64_eq (v : ValD) : v.R64 ↔ (-9223372036854775808 ≤ v.n ∧ v.n ≤ 9223372036854775807) ∧ R64s v.items ∧ R64m v.mems := by cases v; rw [ValD.R64]; exact Iff.rfl
theorem mr64_eq (m : MemD) : m.R64 ↔ m.v.R64 := by cases m; rw [MemD.R64]; exact Iff.rfl
theorem r64s_mem : ∀ (l : List ValD), R64s l → ∀ k ∈ l, k.R64
  | [], _, _, h => by cases h
  | x :: r, h, k, hk => by
    rw [R64s] at h
    rcases List.mem_cons.1 hk with rfl | hk
    · exact h.1
    · exact r64s_mem r h.2 k hk
theorem r64m_mem : ∀ (l : List MemD), R64m l → ∀ k ∈ l, k.v.R64
  | [], _, _, h => by cases h
  | x :: r, h, k, hk => by
    rw [R64m] at h
    rcases List.mem_cons.1 hk with rfl | hk
    · exact (mr64_eq _).1 h.1
    · exact r64m_mem r h.2 k hk
def boolT (b : Bool) : List UInt8 := if b then [116, 114, 117, 101] else [102, 97, 108, 115, 101]
def nullT : List UInt8 := [110, 117, 108, 108]
def sepT (first : Bool) : List UInt8 := if first then [] else [44]
mutual
def ValD.text : ValD → List UInt8
  | .mk k b n s items mems _ => if k = 0 then nullT else if k = 1 then boolT b else if k = 2 then Lib.itoa n else if k = 3 then quoteJ s.data.toList else if k = 4 then 91 :: (txVs true items ++ [93]) else 123 :: (txMs true mems ++ [125])
def txVs : Bool → List ValD → List UInt8
  | _, [] => []
  | first, k :: r => sepT first ++ (k.text ++ txVs false r)
def txMs : Bool → List MemD → List UInt8
  | _, [] => []
  | first, m :: r => sepT first ++ (m.text ++ txMs false r)
def MemD.text : MemD → List UInt8
  | .mk key v _ => quoteJ key.data.toList ++ (58 :: v.text)
end
theorem vtext_eq (v : ValD) : v.text = if v.kind = 0 then nullT else if v.kind = 1 then boolT v.b else if v.kind = 2 then Lib.itoa v.n else if v.kind = 3 then quoteJ v.s.data.toList else if v.kind = 4 then 91 :: (txVs true v.items ++ [93]) else 123 :: (txMs true v.mems ++ [125]) := by cases v; rw [ValD.text]; rfl
theorem mtext_eq (m : MemD) : m.text = quoteJ m.key.data.toList ++ (58 :: m.v.text) := by cases m; rw [MemD.text]; rfl
theorem size0 {s : ByteArray} (h : s.size = 0) : s = ⟨#[]⟩ := kstr_ext (by
  have : s.data.toList.length = 0 := by simpa using h
  rw [List.length_eq_zero_iff.1 this])
theorem dig_nat (k : Nat) (h : k < 10) : (UInt8.ofNat (48 + k)).toNat = 48 + k := by
  rw [UInt8.toNat_ofNat']
  omega
theorem dec_digs (u : Nat) : ∀ c ∈ Lib.decDigits u, 48 ≤ c.toNat ∧ c.toNat ≤ 57 := by
  induction u using Nat.strongRecOn with
  | _ u ih =>
    intro c hc
    by_cases h : u < 10
    · rw [Lib.decDigits, dif_pos h, List.mem_singleton] at hc
      rw [hc, dig_nat u h]
      omega
    · rw [Lib.decDigits, dif_neg h, List.mem_append, List.mem_singleton] at hc
      rcases hc with hc | hc
      · exact ih (u / 10) (by omega) c hc
      · rw [hc, dig_nat _ (Nat.mod_lt _ (by decide))]
        omega
theorem dec_len : ∀ (k u : Nat), u < 10 ^ (k + 1) → (Lib.decDigits u).length ≤ k + 1
  | 0, u, h => by rw [Lib.decDigits, dif_pos (by simpa using h)]; simp
  | k + 1, u, h => by
    by_cases hu : u < 10
    · rw [Lib.decDigits, dif_pos hu]; simp
    · rw [Lib.decDigits, dif_neg hu, List.length_append, List.length_singleton]
      have := dec_len k (u / 10) (by rw [Nat.pow_succ] at h; omega)
      omega
theorem dec_ne (u : Nat) : Lib.decDigits u ≠ [] := by
  rw [Lib.decDigits]
  split <;> simp
theorem itoa_head (n : Int) : ∃ c r, Lib.itoa n = c :: r ∧ (c = 45 ∨ (48 ≤ c.toNat ∧ c.toNat ≤ 57)) := by
  unfold Lib.itoa
  split
  · exact ⟨45, _, rfl, .inl rfl⟩
  · obtain ⟨c, r, h⟩ := List.exists_cons_of_ne_nil (dec_ne n.toNat)
    exact ⟨c, r, h, .inr (dec_digs n.toNat c (by rw [h]; exact List.mem_cons_self))⟩
theorem itoa_len (n : Int) (h0 : -9223372036854775808 ≤ n) (h1 : n ≤ 9223372036854775807) : (Lib.itoa n).length ≤ 20 := by
  unfold Lib.itoa
  split
  · have := dec_len 18 n.natAbs (by simp; omega)
    rw [List.length_cons]
    omega
  · have := dec_len 18 n.toNat (by simp; omega)
    omega
end Go.Proofs.YtbfalppeifkjdaaGreatDoor
end
section
namespace Go.Proofs.YtbfalppeifkjdaaGreatDoor
open Go.RowKit
mutual
def ValD.bulk : ValD → Nat
  | .mk _ _ _ s items mems _ => 1 + s.size + bulkVs items + bulkMs mems
def bulkVs : List ValD → Nat
  | [] => 0
  | k :: r => k.bulk + bulkVs r
def bulkMs : List MemD → Nat
  | [] => 0
  | m :: r => m.bulk + bulkMs r
def MemD.bulk : MemD → Nat
  | .mk key v _ => key.size + v.bulk
end
theorem vbulk_eq (v : ValD) : v.bulk = 1 + v.s.size + bulkVs v.items + bulkMs v.mems := by cases v; rw [ValD.bulk]; rfl
theorem mbulk_eq (m : MemD) : m.bulk = m.key.size + m.v.bulk := by cases m; rw [MemD.bulk]; rfl
theorem bulkVs_mem : ∀ (l : List ValD) (k : ValD), k ∈ l → k.bulk ≤ bulkVs l
  | [], _, h => by cases h
  | x :: r, k, h => by
    rw [bulkVs]
    rcases List.mem_cons.1 h with rfl | h
    · omega
    · have := bulkVs_mem r k h
      omega
theorem bulkMs_mem : ∀ (l : List MemD) (m : MemD), m ∈ l → m.key.size + m.v.bulk ≤ bulkMs l
  | [], _, h => by cases h
  | x :: r, m, h => by
    rw [bulkMs]
    rcases List.mem_cons.1 h with rfl | h
    · have := mbulk_eq m
      omega
    · have := bulkMs_mem r m h
      omega
theorem bulk_item (v k : ValD) (h : k ∈ v.items) : k.bulk < v.bulk := by
  have := bulkVs_mem _ k h
  rw [vbulk_eq v]
  omega
theorem bulk_mem (v : ValD) (m : MemD) (h : m ∈ v.mems) : m.key.size + m.v.bulk < v.bulk := by
  have := bulkMs_mem _ m h
  rw [vbulk_eq v]
  omega
theorem bulk_pos (v : ValD) : 1 ≤ v.bulk := by rw [vbulk_eq]; omega
theorem bulkVs_len : ∀ l : List ValD, l.length ≤ bulkVs l
  | [] => Nat.zero_le _
  | k :: r => by
    have h1 := bulkVs_len r
    have h2 := bulk_pos k
    rw [bulkVs, List.length_cons]
    omega
theorem bulkMs_len : ∀ l : List MemD, l.length ≤ bulkMs l
  | [] => Nat.zero_le _
  | m :: r => by
    have h1 := bulkMs_len r
    have h2 := bulk_pos m.v
    have h3 := mbulk_eq m
    rw [bulkMs, List.length_cons]
    omega
theorem boolT_len (b : Bool) : (boolT b).length ≤ 5 := by cases b <;> decide
theorem sepT_len (b : Bool) : (sepT b).length ≤ 1 := by cases b <;> decide
mutual
theorem text_bulk : ∀ v : ValD, v.R64 → v.text.length + 4 ≤ 40 * v.bulk
  | .mk k b n s items mems a, h => by
    rw [ValD.R64] at h
    have h1 := texts_bulk true items h.2.1
    have h2 := mtexts_bulk true mems h.2.2
    have h3 := itemsJ_len s.data.toList
    have h4 : s.data.toList.length = s.size := by simp
    have h5 := boolT_len b
    have h6 := itoa_len n h.1.1 h.1.2
    rw [ValD.text, ValD.bulk]
    split
    · show 4 + 4 ≤ _; omega
    split
    · omega
    split
    · omega
    split
    · rw [quoteJ_len]; omega
    split
    · simp only [List.length_cons, List.length_append, List.length_nil]; omega
    · simp only [List.length_cons, List.length_append, List.length_nil]; omega
theorem texts_bulk : ∀ (first : Bool) (l : List ValD), R64s l → (txVs first l).length ≤ 40 * bulkVs l
  | _, [], _ => by rw [txVs]; exact Nat.zero_le _
  | first, k :: r, h => by
    rw [R64s] at h
    have h1 := text_bulk k h.1
    have h2 := texts_bulk false r h.2
    have h3 := sepT_len first
    have h4 := bulk_pos k
    rw [txVs, bulkVs, List.length_append, List.length_append]
    omega
theorem mtexts_bulk : ∀ (first : Bool) (l : List MemD), R64m l → (txMs first l).length ≤ 40 * bulkMs l
  | _, [], _ => by rw [txMs]; exact Nat.zero_le _
  | first, m :: r, h => by
    rw [R64m] at h
    have h1 := mtext_bulk m h.1
    have h2 := mtexts_bulk false r h.2
    have h3 := sepT_len first
    have h4 := bulk_pos m.v
    have h5 := mbulk_eq m
    rw [txMs, bulkMs, List.length_append, List.length_append]
    omega
theorem mtext_bulk : ∀ m : MemD, m.R64 → m.text.length + 1 ≤ 40 * m.bulk
  | .mk key v a, h => by
    rw [MemD.R64] at h
    have h1 := text_bulk v h
    have h3 := itemsJ_len key.data.toList
    have h4 : key.data.toList.length = key.size := by simp
    have h5 := bulk_pos v
    rw [MemD.text, MemD.bulk, List.length_append, List.length_cons, quoteJ_len]
    omega
end
end Go.Proofs.YtbfalppeifkjdaaGreatDoor
end
section
namespace Go.Proofs.YtbfalppeifkjdaaGreatDoor
open Go.RowKit
def jvalB (n : ValD) : Bool := n.okB && decide (n.depth ≤ 100)
def chkZ (n : ValD) : Int := if jvalB n = true then 0 else 22
theorem jvalB_vd (n : ValD) : n.vdB 1 = jvalB n := by
  rw [vvd_split]
  unfold jvalB
  congr 1
  rw [decide_eq_decide]
  omega
end Go.Proofs.YtbfalppeifkjdaaGreatDoor
end
section
namespace Go.Proofs.YtbfalppeifkjdaaGreatDoor
open Go.RowKit
theorem txVs_drop (l : List ValD) (i : Nat) (h : i < l.length) (b : Bool) : txVs b (l.drop i) = sepT b ++ (l[i].text ++ txVs false (l.drop (i + 1))) := by rw [List.drop_eq_getElem_cons h, txVs]
theorem txMs_drop (l : List MemD) (i : Nat) (h : i < l.length) (b : Bool) : txMs b (l.drop i) = sepT b ++ ((quoteJ l[i].key.data.toList ++ (58 :: l[i].v.text)) ++ txMs false (l.drop (i + 1))) := by rw [List.drop_eq_getElem_cons h, txMs, mtext_eq]
theorem okVs_at : ∀ (l : List ValD), okVs l = true → ∀ k ∈ l, k.okB = true
  | [], _, _, h => by cases h
  | x :: r, h, k, hk => by
    rw [okVs, Bool.and_eq_true] at h
    rcases List.mem_cons.1 hk with rfl | hk
    · exact h.1
    · exact okVs_at r h.2 k hk
theorem okMs_at : ∀ (l : List MemD) (keys : List ByteArray), okMs keys l = true → ∀ m ∈ l, vaL m.key.data.toList = true ∧ m.v.okB = true
  | [], _, _, _, h => by cases h
  | x :: r, keys, h, m, hm => by
    rw [okMs, Bool.and_eq_true, Bool.and_eq_true, Bool.and_eq_true, mok_eq] at h
    rcases List.mem_cons.1 hm with rfl | hm
    · exact h.1.2
    · exact okMs_at r _ h.2 m hm
theorem quote_ok (l : List UInt8) (h : vaL l = true) : quoteP l = (quoteJ l, 0) := by unfold quoteP; rw [if_pos h]
def wrZ (n : ValD) : ByteArray := if jvalB n = true then ofBytes n.text else ⟨#[]⟩
theorem wrP (n : ValD) : (chkZ n = 0 ∧ wrZ n = ofBytes n.text ∧ n.okB = true) ∨ (chkZ n = 22 ∧ wrZ n = ⟨#[]⟩) := by
  unfold chkZ wrZ
  rcases h : jvalB n with _ | _
  · exact .inr ⟨rfl, rfl⟩
  · refine .inl ⟨rfl, rfl, ?_⟩
    unfold jvalB at h
    rw [Bool.and_eq_true] at h
    exact h.1
end Go.Proofs.YtbfalppeifkjdaaGreatDoor
end
