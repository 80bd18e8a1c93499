/- Packed from the texts JwA JwP. -/
import Derived.Test.YtggfblodjanfkaaGreatDoorVkD
import Derived.Test.YtggfblodjanfkaaGreatDoorVkJ
import Derived.Test.YtggfblodjanfkaaGreatDoorVkK
import Derived.Test.YtggfblodjanfkaaGreatDoorVkS
import Derived.Lib.ItoaNum
section
namespace Go.Proofs.YtggfblodjanfkaaGreatDoor
open Go.RowKit
def properB (v : ValD) : Bool := decide ((0 ≤ v.kind ∧ v.kind ≤ 5) ∧ (v.kind = 1 ∨ v.b = false) ∧ (v.kind = 2 ∨ v.n = 0) ∧ (v.kind = 3 ∨ v.s.size = 0) ∧ (v.kind = 4 ∨ v.items.length = 0) ∧ (v.kind = 5 ∨ v.mems.length = 0))
mutual
def ValD.okB : ValD → Bool
  | .mk k b n s items mems a => properB (.mk k b n s items mems a) && (vaL s.data.toList && (okVs items && okMs [] mems))
def okVs : List ValD → Bool
  | [] => true
  | k :: r => k.okB && okVs r
def okMs : List ByteArray → List MemD → Bool
  | _, [] => true
  | keys, m :: r => (!(keys.any fun x => decide (x = m.key)) && (vaL m.key.data.toList && m.okB)) && okMs (keys ++ [m.key]) r
def MemD.okB : MemD → Bool
  | .mk _ v _ => v.okB
end
theorem vok_eq (v : ValD) : v.okB = (properB v && (vaL v.s.data.toList && (okVs v.items && okMs [] v.mems))) := by cases v; rw [ValD.okB]; rfl
theorem mok_eq (m : MemD) : m.okB = m.v.okB := by cases m; rw [MemD.okB]; rfl
mutual
def ValD.vdB : ValD → Nat → Bool
  | .mk k b n s items mems a, d => decide (d ≤ 100) && (properB (.mk k b n s items mems a) && (vaL s.data.toList && (vdVs items (d + 1) && vdMs [] mems (d + 1))))
def vdVs : List ValD → Nat → Bool
  | [], _ => true
  | k :: r, d => k.vdB d && vdVs r d
def vdMs : List ByteArray → List MemD → Nat → Bool
  | _, [], _ => true
  | keys, m :: r, d => (!(keys.any fun x => decide (x = m.key)) && (vaL m.key.data.toList && m.vdB d)) && vdMs (keys ++ [m.key]) r d
def MemD.vdB : MemD → Nat → Bool
  | .mk _ v _, d => v.vdB d
end
theorem vvd_eq (v : ValD) (d : Nat) : v.vdB d = (decide (d ≤ 100) && (properB v && (vaL v.s.data.toList && (vdVs v.items (d + 1) && vdMs [] v.mems (d + 1))))) := by cases v; rw [ValD.vdB]; rfl
theorem mvd_eq (m : MemD) (d : Nat) : m.vdB d = m.v.vdB d := by cases m; rw [MemD.vdB]; rfl
theorem vdepths_max : ∀ (l : List ValD) (m : Nat), vdepths l m = max m (vdepths l 0)
  | [], m => by rw [vdepths, vdepths]; omega
  | k :: r, m => by
    rw [vdepths, vdepths, vdepths_max r (max m k.depth), vdepths_max r (max 0 k.depth)]
    omega
theorem mdepths_max : ∀ (l : List MemD) (m : Nat), mdepths l m = max m (mdepths l 0)
  | [], m => by rw [mdepths, mdepths]; omega
  | k :: r, m => by
    rw [mdepths, mdepths, mdepths_max r (max m k.depth), mdepths_max r (max 0 k.depth)]
    omega
mutual
theorem vvd_split : ∀ (v : ValD) (d : Nat), v.vdB d = (v.okB && decide (v.depth + d ≤ 101))
  | .mk k b n s items mems a, d => by
    rw [ValD.vdB, ValD.okB]
    by_cases hd : d ≤ 100
    · rw [decide_eq_true hd, Bool.true_and, vdVs_split items (d + 1) (by omega), vdMs_split [] mems (d + 1) (by omega)]
      rcases hp : properB (.mk k b n s items mems a) with _ | _
      · simp
      · have hp := of_decide_eq_true (show decide _ = true from hp)
        simp only [ValD.kind, ValD.items, ValD.mems, ValD.n, ValD.b, ValD.s] at hp
        obtain ⟨-, -, -, -, h4, h5⟩ := hp
        rw [ValD.depth]
        have hi : k ≠ 4 → items = [] := fun h => List.length_eq_zero_iff.1 (h4.resolve_left h)
        have hm : k ≠ 5 → mems = [] := fun h => List.length_eq_zero_iff.1 (h5.resolve_left h)
        by_cases h4' : k = 4
        · obtain rfl := hm (by omega)
          rw [if_pos h4']
          rw [show mdepths [] 0 = 0 from rfl, show vdepths items 0 + 1 + d = vdepths items 0 + (d + 1) by omega]
          rw [show decide (0 + (d + 1) ≤ 101) = true from decide_eq_true (by omega)]
          simp only [Bool.true_and, Bool.and_true, Bool.and_assoc]
          rcases vaL s.data.toList <;> rcases okVs items <;> rcases okMs [] ([] : List MemD) <;> simp
        · obtain rfl := hi h4'
          rw [if_neg h4']
          rw [show vdepths [] 0 = 0 from rfl, show decide (0 + (d + 1) ≤ 101) = true from decide_eq_true (by omega)]
          by_cases h5' : k = 5
          · rw [if_pos h5', show mdepths mems 0 + 1 + d = mdepths mems 0 + (d + 1) by omega]
            simp only [Bool.true_and, Bool.and_true, Bool.and_assoc]
          · obtain rfl := hm h5'
            rw [if_neg h5', show mdepths [] 0 = 0 from rfl, show decide (0 + (d + 1) ≤ 101) = true from decide_eq_true (by omega), show decide (0 + 1 + d ≤ 101) = true from decide_eq_true (by omega)]
            simp only [Bool.true_and, Bool.and_true]
    · have : 1 ≤ (ValD.mk k b n s items mems a).depth := by rw [ValD.depth]; omega
      rw [decide_eq_false hd, Bool.false_and, decide_eq_false (by omega), Bool.and_false]
theorem vdVs_split : ∀ (l : List ValD) (d : Nat), d ≤ 101 → vdVs l d = (okVs l && decide (vdepths l 0 + d ≤ 101))
  | [], d, h => by rw [vdVs, okVs, vdepths, decide_eq_true (by omega)]; rfl
  | k :: r, d, h => by
    rw [vdVs, okVs, vdepths, vvd_split k d, vdVs_split r d h, vdepths_max r (max 0 k.depth)]
    have : decide (max (max 0 k.depth) (vdepths r 0) + d ≤ 101) = (decide (k.depth + d ≤ 101) && decide (vdepths r 0 + d ≤ 101)) := by
      rw [← Bool.decide_and]
      congr 1
      rw [eq_iff_iff]
      omega
    rw [this]
    rcases k.okB <;> rcases okVs r <;> simp
theorem vdMs_split : ∀ (keys : List ByteArray) (l : List MemD) (d : Nat), d ≤ 101 → vdMs keys l d = (okMs keys l && decide (mdepths l 0 + d ≤ 101))
  | keys, [], d, h => by rw [vdMs, okMs, mdepths, decide_eq_true (by omega)]; rfl
  | keys, m :: r, d, h => by
    rw [vdMs, okMs, mdepths, mvd_split m d, vdMs_split (keys ++ [m.key]) r d h, mdepths_max r (max 0 m.depth)]
    have : decide (max (max 0 m.depth) (mdepths r 0) + d ≤ 101) = (decide (m.depth + d ≤ 101) && decide (mdepths r 0 + d ≤ 101)) := by
      rw [← Bool.decide_and]
      congr 1
      rw [eq_iff_iff]
      omega
    rw [this]
    rcases m.okB <;> rcases okMs (keys ++ [m.key]) r <;> simp [Bool.and_assoc]
theorem mvd_split : ∀ (m : MemD) (d : Nat), m.vdB d = (m.okB && decide (m.depth + d ≤ 101))
  | .mk key v a, d => by rw [MemD.vdB, MemD.okB, MemD.depth, vvd_split v d]
end
mutual
def ValD.R64 : ValD → Prop
  | .mk _ _ n _ items mems _ => (-9223372036854775808 ≤ n ∧ n ≤ 9223372036854775807) ∧ R64s items ∧ R64m mems
def R64s : List ValD → Prop
  | [] => True
  | k :: r => k.R64 ∧ R64s r
def R64m : List MemD → Prop
  | [] => True
  | m :: r => m.R64 ∧ R64m r
def MemD.R64 : MemD → Prop
  | .mk _ v _ => v.R64
end
theorem vr64_eq (v : ValD) : v.R64 ↔ (-9223372036854775808 ≤ v.n ∧ v.n ≤ 9223372036854775807) ∧ R64s v.items ∧ R64m v.mems := by cases v; rw [ValD.R64]; exact Iff.rfl
theorem mr64_eq (m : MemD) : m.R64 ↔ m.v.R64 := by cases m; rw [MemD.R64]; exact Iff.rfl
theorem r64s_mem : ∀ (l : List ValD), R64s l → ∀ k ∈ l, k.R64
  | [], _, _, h => by cases h
  | x :: r, h, k, hk => by
    rw [R64s] at h
    rcases List.mem_cons.1 hk with rfl | hk
    · exact h.1
    · exact r64s_mem r h.2 k hk
theorem r64m_mem : ∀ (l : List MemD), R64m l → ∀ k ∈ l, k.v.R64
  | [], _, _, h => by cases h
  | x :: r, h, k, hk => by
    rw [R64m] at h
    rcases List.mem_cons.1 hk with rfl | hk
    · exact (mr64_eq _).1 h.1
    · exact r64m_mem r h.2 k hk
def boolT (b : Bool) : List UInt8 := if b then [116, 114, 117, 101] else [102, 97, 108, 115, 101]
def nullT : List UInt8 := [110, 117, 108, 108]
def sepT (first : Bool) : List UInt8 := if first then [] else [44]
mutual
def ValD.text : ValD → List UInt8
  | .mk k b n s items mems _ => if k = 0 then nullT else if k = 1 then boolT b else if k = 2 then Lib.itoa n else if k = 3 then quoteJ s.data.toList else if k = 4 then 91 :: (txVs true items ++ [93]) else 123 :: (txMs true mems ++ [125])
def txVs : Bool → List ValD → List UInt8
  | _, [] => []
  | first, k :: r => sepT first ++ (k.text ++ txVs false r)
def txMs : Bool → List MemD → List UInt8
  | _, [] => []
  | first, m :: r => sepT first ++ (m.text ++ txMs false r)
def MemD.text : MemD → List UInt8
  | .mk key v _ => quoteJ key.data.toList ++ (58 :: v.text)
end
theorem vtext_eq (v : ValD) : v.text = if v.kind = 0 then nullT else if v.kind = 1 then boolT v.b else if v.kind = 2 then Lib.itoa v.n else if v.kind = 3 then quoteJ v.s.data.toList else if v.kind = 4 then 91 :: (txVs true v.items ++ [93]) else 123 :: (txMs true v.mems ++ [125]) := by cases v; rw [ValD.text]; rfl
theorem mtext_eq (m : MemD) : m.text = quoteJ m.key.data.toList ++ (58 :: m.v.text) := by cases m; rw [MemD.text]; rfl
theorem size0 {s : ByteArray} (h : s.size = 0) : s = ⟨#[]⟩ := kstr_ext (by
  have : s.data.toList.length = 0 := by simpa using h
  rw [List.length_eq_zero_iff.1 this])
theorem dval_app : ∀ (l : List UInt8) (c : UInt8) (u : Nat), dvalN (l ++ [c]) u = match dvalN l u with
    | none => none
    | some x => if 48 ≤ c.toNat ∧ c.toNat ≤ 57 then some (x * 10 + (c.toNat - 48)) else none
  | [], c, u => by
    show dvalN (c :: []) u = _
    rw [dvalN, dvalN]
    split <;> simp [dvalN]
  | x :: r, c, u => by
    rw [List.cons_append, dvalN, dvalN]
    split
    · exact dval_app r c _
    · rfl
theorem dig_nat (k : Nat) (h : k < 10) : (UInt8.ofNat (48 + k)).toNat = 48 + k := by
  rw [UInt8.toNat_ofNat']
  omega
theorem dval_dec (u : Nat) : dvalN (Lib.decDigits u) 0 = some u := by
  induction u using Nat.strongRecOn with
  | _ u ih =>
    by_cases h : u < 10
    · rw [Lib.decDigits, dif_pos h, dvalN, dig_nat u h, if_pos (by omega), dvalN]
      simp
    · rw [Lib.decDigits, dif_neg h, dval_app, ih (u / 10) (by omega)]
      simp only
      rw [dig_nat _ (Nat.mod_lt _ (by decide)), if_pos (by omega)]
      congr 1
      omega
theorem dec_digs (u : Nat) : ∀ c ∈ Lib.decDigits u, 48 ≤ c.toNat ∧ c.toNat ≤ 57 := by
  induction u using Nat.strongRecOn with
  | _ u ih =>
    intro c hc
    by_cases h : u < 10
    · rw [Lib.decDigits, dif_pos h, List.mem_singleton] at hc
      rw [hc, dig_nat u h]
      omega
    · rw [Lib.decDigits, dif_neg h, List.mem_append, List.mem_singleton] at hc
      rcases hc with hc | hc
      · exact ih (u / 10) (by omega) c hc
      · rw [hc, dig_nat _ (Nat.mod_lt _ (by decide))]
        omega
theorem dec_len : ∀ (k u : Nat), u < 10 ^ (k + 1) → (Lib.decDigits u).length ≤ k + 1
  | 0, u, h => by rw [Lib.decDigits, dif_pos (by simpa using h)]; simp
  | k + 1, u, h => by
    by_cases hu : u < 10
    · rw [Lib.decDigits, dif_pos hu]; simp
    · rw [Lib.decDigits, dif_neg hu, List.length_append, List.length_singleton]
      have := dec_len k (u / 10) (by rw [Nat.pow_succ] at h; omega)
      omega
theorem dec_ne (u : Nat) : Lib.decDigits u ≠ [] := by
  rw [Lib.decDigits]
  split <;> simp
theorem dec_head (u : Nat) (h : 1 < (Lib.decDigits u).length ∨ 1 ≤ u) : (Lib.decDigits u).getD 0 0 ≠ 48 := by
  induction u using Nat.strongRecOn with
  | _ u ih =>
    by_cases hu : u < 10
    · rw [Lib.decDigits, dif_pos hu] at h ⊢
      have h1 : 1 ≤ u := by
        rcases h with h | h
        · simp at h
        · exact h
      show UInt8.ofNat (48 + u) ≠ 48
      intro e
      have := congrArg UInt8.toNat e
      rw [dig_nat u hu] at this
      have h48 : (48 : UInt8).toNat = 48 := rfl
      omega
    · have := ih (u / 10) (by omega) (.inr (by omega))
      rw [Lib.decDigits, dif_neg hu]
      have hp := List.length_pos_iff.2 (dec_ne (u / 10))
      rw [List.getD_eq_getElem?_getD, List.getElem?_append_left hp, ← List.getD_eq_getElem?_getD]
      exact this
theorem num_dec (g : Bool) (u : Nat) (h : u < 10000000000000000000) : jnumD g (Lib.decDigits u) = if g then (if u ≤ 9223372036854775808 then some (-(u : Int)) else none) else if u < 9223372036854775808 then some (u : Int) else none := by
  have hl := dec_len 18 u (by simpa using h)
  rw [jnumD_ok g _ (by
    rintro (h1 | h1 | ⟨h1, h2⟩)
    · exact dec_ne u h1
    · omega
    · exact dec_head u (.inl h1) h2), dval_dec]
theorem num_itoa (n : Int) (h0 : -9223372036854775808 ≤ n) (h1 : n ≤ 9223372036854775807) : jnumL (Lib.itoa n) = some n := by
  unfold Lib.itoa
  by_cases hn : n < 0
  · rw [if_pos hn, jnumL_neg _ rfl, List.tail_cons, num_dec true _ (by omega), if_pos rfl, if_pos (by omega)]
    congr 1
    omega
  · rw [if_neg hn, jnumL_pos _ (by
      intro e
      have hp := List.length_pos_iff.2 (dec_ne n.toNat)
      have hm := dec_digs n.toNat _ (List.getElem_mem hp)
      rw [List.getD_eq_getElem?_getD, List.getElem?_eq_getElem hp, Option.getD_some] at e
      rw [e] at hm
      exact absurd hm.1 (by decide)), num_dec false _ (by omega), if_neg (by simp), if_pos (by omega)]
    congr 1
    omega
theorem itoa_head (n : Int) : ∃ c r, Lib.itoa n = c :: r ∧ (c = 45 ∨ (48 ≤ c.toNat ∧ c.toNat ≤ 57)) := by
  unfold Lib.itoa
  split
  · exact ⟨45, _, rfl, .inl rfl⟩
  · obtain ⟨c, r, h⟩ := List.exists_cons_of_ne_nil (dec_ne n.toNat)
    exact ⟨c, r, h, .inr (dec_digs n.toNat c (by rw [h]; exact List.mem_cons_self))⟩
theorem itoa_len (n : Int) (h0 : -9223372036854775808 ≤ n) (h1 : n ≤ 9223372036854775807) : (Lib.itoa n).length ≤ 20 := by
  unfold Lib.itoa
  split
  · have := dec_len 18 n.natAbs (by simp; omega)
    rw [List.length_cons]
    omega
  · have := dec_len 18 n.toNat (by simp; omega)
    omega
end Go.Proofs.YtggfblodjanfkaaGreatDoor
end
section
namespace Go.Proofs.YtggfblodjanfkaaGreatDoor
open Go.RowKit
mutual
def ValD.bulk : ValD → Nat
  | .mk _ _ _ s items mems _ => 1 + s.size + bulkVs items + bulkMs mems
def bulkVs : List ValD → Nat
  | [] => 0
  | k :: r => k.bulk + bulkVs r
def bulkMs : List MemD → Nat
  | [] => 0
  | m :: r => m.bulk + bulkMs r
def MemD.bulk : MemD → Nat
  | .mk key v _ => key.size + v.bulk
end
theorem vbulk_eq (v : ValD) : v.bulk = 1 + v.s.size + bulkVs v.items + bulkMs v.mems := by cases v; rw [ValD.bulk]; rfl
theorem mbulk_eq (m : MemD) : m.bulk = m.key.size + m.v.bulk := by cases m; rw [MemD.bulk]; rfl
theorem bulkVs_mem : ∀ (l : List ValD) (k : ValD), k ∈ l → k.bulk ≤ bulkVs l
  | [], _, h => by cases h
  | x :: r, k, h => by
    rw [bulkVs]
    rcases List.mem_cons.1 h with rfl | h
    · omega
    · have := bulkVs_mem r k h
      omega
theorem bulkMs_mem : ∀ (l : List MemD) (m : MemD), m ∈ l → m.key.size + m.v.bulk ≤ bulkMs l
  | [], _, h => by cases h
  | x :: r, m, h => by
    rw [bulkMs]
    rcases List.mem_cons.1 h with rfl | h
    · have := mbulk_eq m
      omega
    · have := bulkMs_mem r m h
      omega
theorem bulk_item (v k : ValD) (h : k ∈ v.items) : k.bulk < v.bulk := by
  have := bulkVs_mem _ k h
  rw [vbulk_eq v]
  omega
theorem bulk_mem (v : ValD) (m : MemD) (h : m ∈ v.mems) : m.key.size + m.v.bulk < v.bulk := by
  have := bulkMs_mem _ m h
  rw [vbulk_eq v]
  omega
theorem bulk_pos (v : ValD) : 1 ≤ v.bulk := by rw [vbulk_eq]; omega
theorem bulkVs_len : ∀ l : List ValD, l.length ≤ bulkVs l
  | [] => Nat.zero_le _
  | k :: r => by
    have h1 := bulkVs_len r
    have h2 := bulk_pos k
    rw [bulkVs, List.length_cons]
    omega
theorem bulkMs_len : ∀ l : List MemD, l.length ≤ bulkMs l
  | [] => Nat.zero_le _
  | m :: r => by
    have h1 := bulkMs_len r
    have h2 := bulk_pos m.v
    have h3 := mbulk_eq m
    rw [bulkMs, List.length_cons]
    omega
theorem boolT_len (b : Bool) : (boolT b).length ≤ 5 := by cases b <;> decide
theorem sepT_len (b : Bool) : (sepT b).length ≤ 1 := by cases b <;> decide
mutual
theorem text_bulk : ∀ v : ValD, v.R64 → v.text.length + 4 ≤ 40 * v.bulk
  | .mk k b n s items mems a, h => by
    rw [ValD.R64] at h
    have h1 := texts_bulk true items h.2.1
    have h2 := mtexts_bulk true mems h.2.2
    have h3 := itemsJ_len s.data.toList
    have h4 : s.data.toList.length = s.size := by simp
    have h5 := boolT_len b
    have h6 := itoa_len n h.1.1 h.1.2
    rw [ValD.text, ValD.bulk]
    split
    · show 4 + 4 ≤ _; omega
    split
    · omega
    split
    · omega
    split
    · rw [quoteJ_len]; omega
    split
    · simp only [List.length_cons, List.length_append, List.length_nil]; omega
    · simp only [List.length_cons, List.length_append, List.length_nil]; omega
theorem texts_bulk : ∀ (first : Bool) (l : List ValD), R64s l → (txVs first l).length ≤ 40 * bulkVs l
  | _, [], _ => by rw [txVs]; exact Nat.zero_le _
  | first, k :: r, h => by
    rw [R64s] at h
    have h1 := text_bulk k h.1
    have h2 := texts_bulk false r h.2
    have h3 := sepT_len first
    have h4 := bulk_pos k
    rw [txVs, bulkVs, List.length_append, List.length_append]
    omega
theorem mtexts_bulk : ∀ (first : Bool) (l : List MemD), R64m l → (txMs first l).length ≤ 40 * bulkMs l
  | _, [], _ => by rw [txMs]; exact Nat.zero_le _
  | first, m :: r, h => by
    rw [R64m] at h
    have h1 := mtext_bulk m h.1
    have h2 := mtexts_bulk false r h.2
    have h3 := sepT_len first
    have h4 := bulk_pos m.v
    have h5 := mbulk_eq m
    rw [txMs, bulkMs, List.length_append, List.length_append]
    omega
theorem mtext_bulk : ∀ m : MemD, m.R64 → m.text.length + 1 ≤ 40 * m.bulk
  | .mk key v a, h => by
    rw [MemD.R64] at h
    have h1 := text_bulk v h
    have h3 := itemsJ_len key.data.toList
    have h4 : key.data.toList.length = key.size := by simp
    have h5 := bulk_pos v
    rw [MemD.text, MemD.bulk, List.length_append, List.length_cons, quoteJ_len]
    omega
end
end Go.Proofs.YtggfblodjanfkaaGreatDoor
end
