/- Packed from the texts NsE. -/
import Derived.Test.YtoehcholbcchcaaDoorUNsD
import Derived.Maps.OwnSet
import Derived.Maps.Own
section
namespace Go.Proofs.YtoehcholbcchcaaDoor
open Go.RowKit Go.Maps
abbrev Fr := List (ByteArray × ByteArray × Nat)
def findF : Fr → ByteArray → Option (ByteArray × Nat)
  | [], _ => none
  | b :: r, q => if b.1 = q then some b.2 else findF r q
def findE : List Fr → ByteArray → Option (ByteArray × Nat)
  | [], _ => none
  | f :: r, q => match findF f q with
    | some x => some x
    | none => findE r q
def nsLit (x : ByteArray × Nat) : DataW Unit := .agg [.lit (.string x.1.data.toList), .lit (.int .i64 (x.2 : Int))]
def frD : Fr → DataW Unit
  | [] => .map []
  | b :: r => (frD r).put (.string b.1.data.toList) (nsLit b.2)
theorem frD_map : ∀ f, IsMap (frD f)
  | [] => isMap_empty
  | _ :: r => (frD_map r).put _ _
theorem key_lit (t : List UInt8) : WideAt.IsKeyLit (.string t) := trivial
theorem lit_ne {a b : ByteArray} (h : ¬ a = b) : Lit.string b.data.toList ≠ Lit.string a.data.toList := fun e => h (kstr_ext (Lit.string.inj e).symm)
theorem frD_has (q : ByteArray) : ∀ f, Maps.has (frD f) (.string q.data.toList) = (findF f q).isSome
  | [] => rfl
  | b :: r => by
    rw [frD, findF]
    by_cases h : b.1 = q
    · rw [if_pos h, h, has_put_same (frD_map r) (key_lit _)]; rfl
    · rw [if_neg h, has_put_other (lit_ne h), frD_has q r]
theorem frD_at (q : ByteArray) (z : DataW Unit) : ∀ f, (frD f).atKey (.string q.data.toList) z = match findF f q with
    | some x => nsLit x
    | none => z
  | [] => rfl
  | b :: r => by
    rw [frD, findF]
    by_cases h : b.1 = q
    · rw [if_pos h, h, atKey_put_same (frD_map r) (key_lit _)]
    · rw [if_neg h, atKey_put_other (lit_ne h), frD_at q z r]
theorem frD_tidy : ∀ f, Tidy (frD f)
  | [] => tidy_empty
  | _ :: r => (frD_tidy r).put (key_lit _) _
theorem frD_size (b : ByteArray × ByteArray × Nat) (r : Fr) : Maps.size (frD (b :: r)) ≠ 0 := by
  rw [frD, size_put (frD_tidy r)]
  split
  · rename_i h
    intro h0
    obtain ⟨es, he, _⟩ := frD_tidy r
    rw [he] at h h0
    rw [size_eq] at h0
    rw [List.length_eq_zero_iff.1 h0] at h
    simp [has_eq] at h
  · omega
theorem frD_size0 : Maps.size (frD []) = 0 := rfl
def numF : List ByteArray → ByteArray → Option Nat
  | [], _ => none
  | x :: r, q => if x = q then some r.length else numF r q
def numD : List ByteArray → DataW Unit
  | [] => .map []
  | x :: r => (numD r).put (.string x.data.toList) (.lit (.int .i64 (r.length : Int)))
theorem numD_map : ∀ f, IsMap (numD f)
  | [] => isMap_empty
  | _ :: r => (numD_map r).put _ _
theorem numD_has (q : ByteArray) : ∀ f, Maps.has (numD f) (.string q.data.toList) = (numF f q).isSome
  | [] => rfl
  | b :: r => by
    rw [numD, numF]
    by_cases h : b = q
    · rw [if_pos h, h, has_put_same (numD_map r) (key_lit _)]; rfl
    · rw [if_neg h, has_put_other (lit_ne h), numD_has q r]
theorem numD_at (q : ByteArray) (z : DataW Unit) : ∀ f, (numD f).atKey (.string q.data.toList) z = match numF f q with
    | some x => .lit (.int .i64 (x : Int))
    | none => z
  | [] => rfl
  | b :: r => by
    rw [numD, numF]
    by_cases h : b = q
    · rw [if_pos h, h, atKey_put_same (numD_map r) (key_lit _)]
    · rw [if_neg h, atKey_put_other (lit_ne h), numD_at q z r]
theorem numD_tidy : ∀ f, Tidy (numD f)
  | [] => tidy_empty
  | _ :: r => (numD_tidy r).put (key_lit _) _
theorem numF_mem : ∀ (N : List ByteArray) (q : ByteArray), numF N q = none ↔ q ∉ N
  | [], q => by simp [numF]
  | x :: r, q => by
    rw [numF]
    by_cases h : x = q
    · rw [if_pos h, h]; simp
    · rw [if_neg h, numF_mem r q]
      simp only [List.mem_cons, not_or]
      exact ⟨fun h2 => ⟨fun e => h e.symm, h2⟩, fun h2 => h2.2⟩
theorem numF_lt : ∀ (N : List ByteArray) (q : ByteArray) (k : Nat), numF N q = some k → k < N.length
  | [], q, k, h => by cases h
  | x :: r, q, k, h => by
    rw [numF] at h
    split at h
    · injection h with h; rw [← h]; simp
    · have := numF_lt r q k h
      simp only [List.length_cons]
      omega
theorem numF_inj : ∀ (N : List ByteArray) (p q : ByteArray) (k : Nat), numF N p = some k → numF N q = some k → p = q
  | [], p, q, k, h, _ => by cases h
  | x :: r, p, q, k, hp, hq => by
    rw [numF] at hp hq
    by_cases h1 : x = p
    · by_cases h2 : x = q
      · rw [← h1, ← h2]
      · rw [if_pos h1] at hp
        rw [if_neg h2] at hq
        have := numF_lt r q k hq
        injection hp with hp
        omega
    · by_cases h2 : x = q
      · rw [if_neg h1] at hp
        rw [if_pos h2] at hq
        have := numF_lt r p k hp
        injection hq with hq
        omega
      · rw [if_neg h1] at hp
        rw [if_neg h2] at hq
        exact numF_inj r p q k hp hq
theorem numF_push {N : List ByteArray} {x q : ByteArray} {k : Nat} (hx : x ∉ N) (h : numF N q = some k) : numF (x :: N) q = some k := by
  rw [numF]
  split
  · rename_i e
    subst e
    rw [(numF_mem N x).2 hx] at h
    cases h
  · exact h
theorem numD_size : ∀ N : List ByteArray, N.Nodup → Maps.size (numD N) = N.length
  | [], _ => rfl
  | x :: r, h => by
    obtain ⟨h1, h2⟩ := List.nodup_cons.1 h
    rw [numD, size_put (numD_tidy r), numD_has, (numF_mem r x).2 h1]
    simp [numD_size r h2]
theorem wf_nat (k : Nat) (hk : k ≤ 1000000000000) : (Lit.int .i64 (k : Int)).wf = true := by
  simp [Lit.wf, IntKind.min, IntKind.max, IntKind.signed, IntKind.bits]
  omega
theorem nskey : Keyed Tryd.prog 9 := string_keyed Tryd.underlying9
def nsElem (v : Value) : Option (DataW Unit × List MemPlace) :=
  match v with
  | .agg ⟨[.string s, .int .i64 k]⟩ => some (.agg [.lit (.string s.data.toList), .lit (.int .i64 k)], [])
  | _ => none
theorem nsElem_mk (s : ByteArray) (k : Int) : nsElem (.agg #[.string s, .int .i64 k]) = some (.agg [.lit (.string s.data.toList), .lit (.int .i64 k)], []) := rfl
theorem nsElem_inv {v : Value} {s : ByteArray} {k : Int} {ps : List MemPlace} (h : nsElem v = some (.agg [.lit (.string s.data.toList), .lit (.int .i64 k)], ps)) : v = .agg #[.string s, .int .i64 k] := by
  unfold nsElem at h
  split at h
  · rename_i s' k'
    simp only [Option.some.injEq, Prod.mk.injEq, DataW.agg.injEq, List.cons.injEq, DataW.lit.injEq, Lit.string.injEq, Lit.int.injEq, and_true, true_and] at h
    obtain ⟨⟨h1, h2⟩, _⟩ := h
    rw [kstr_ext h1, h2]
  · cases h
theorem zero_ns (w : World) : (zeroValue 98).run Tryd.prog w = .ok (.agg #[.string ⟨#[]⟩, .int .i64 0]) w := by kernel_rfl
theorem zero_int (w : World) : (zeroValue 3).run Tryd.prog w = .ok (.int .i64 0) w := by kernel_rfl
def FrMap (w : World) (b : Nat) (f : Fr) : Prop := w.ownsMap Tryd.prog 9 nsElem b f.length (frD f)
def NumMap (w : World) (b : Nat) (N : List ByteArray) : Prop := w.ownsMap Tryd.prog 9 (plainElem Tryd.prog 3) b N.length (numD N)
theorem FrMap.lt {w : World} {b : Nat} {f : Fr} (h : FrMap w b f) : b < w.heap.size := World.ownsMap.lt h
theorem NumMap.lt {w : World} {b : Nat} {f : List ByteArray} (h : NumMap w b f) : b < w.heap.size := World.ownsMap.lt h
theorem FrMap.same {w w' : World} {b : Nat} {f : Fr} (h : FrMap w b f) (hb : w'.heap[b]? = w.heap[b]?) : FrMap w' b f := by
  obtain ⟨es, clock, h1, h2⟩ := h
  exact ⟨es, clock, hb.trans h1, h2⟩
theorem NumMap.same {w w' : World} {b : Nat} {f : List ByteArray} (h : NumMap w b f) (hb : w'.heap[b]? = w.heap[b]?) : NumMap w' b f := by
  obtain ⟨es, clock, h1, h2⟩ := h
  exact ⟨es, clock, hb.trans h1, h2⟩
def nsVal : Option (ByteArray × Nat) → Value
  | some x => .agg #[.string x.1, .int .i64 (x.2 : Int)]
  | none => .agg #[.string ⟨#[]⟩, .int .i64 0]
theorem FrMap.look {w : World} {b : Nat} {f : Fr} (h : FrMap w b f) (q : ByteArray) (hq : q.size ≤ maxLen) : (Instr.lookup 103 (.map (some b)) (.string q) true).run Tryd.prog w = .ok (.tuple #[nsVal (findF f q), .bool (findF f q).isSome]) w := by
  obtain ⟨v, ps, hrun, hv⟩ := World.ownsMap.look_ok h nskey Tryd.underlying103 (zero_ns w) (nsElem_mk _ _) (Go.WideMaps.keyOf_string_mk Tryd.underlying9 hq)
  rw [hrun, frD_has]
  rw [frD_at] at hv
  cases hf : findF f q with
  | none =>
    rw [hf] at hv
    have e := nsElem_inv (s := ⟨#[]⟩) hv
    rw [e]
    rfl
  | some x =>
    rw [hf] at hv
    have e := nsElem_inv (s := x.1) hv
    rw [e]
    rfl
theorem NumMap.look {w : World} {b : Nat} {N : List ByteArray} (h : NumMap w b N) (q : ByteArray) (hq : q.size ≤ maxLen) : (Instr.lookup 93 (.map (some b)) (.string q) true).run Tryd.prog w = .ok (.tuple #[.int .i64 (((numF N q).getD 0 : Nat) : Int), .bool (numF N q).isSome]) w := by
  obtain ⟨v, ps, hrun, hv⟩ := World.ownsMap.look_ok h nskey Tryd.underlying93 (zero_int w) (plainElem_int Tryd.underlying3 (by decide)) (Go.WideMaps.keyOf_string_mk Tryd.underlying9 hq)
  obtain ⟨c, rfl, hz, _⟩ := plainElem_int_inv Tryd.underlying3 hv
  rw [hrun, numD_has]
  simp only [Prod.mk.injEq] at hz
  have h2 := hz.1.symm.trans (numD_at q _ N)
  cases hf : numF N q with
  | none => rw [hf] at h2; simp only [DataW.lit.injEq, Lit.int.injEq, true_and] at h2; rw [h2]; rfl
  | some x => rw [hf] at h2; simp only [DataW.lit.injEq, Lit.int.injEq, true_and] at h2; rw [h2]; rfl
def EnvAt (T nb : Nat) (w : World) : List Fr → Option Addr → Prop
  | [], p => p = none
  | f :: r, p => ∃ b m q, p = some ⟨b, 0, none⟩ ∧ T ≤ b ∧ b ≠ nb ∧ T ≤ m ∧ m ≠ nb ∧ Blk w b #[.map (some m), .pointer q] 107 ∧ FrMap w m f ∧ EnvAt T nb w r q
theorem EnvAt.part {T nb : Nat} {X : Nat → Prop} {w w' : World} (hp : Part X w w') (hx : ∀ k, X k → k < T ∨ k = nb) : ∀ (E : List Fr) (p : Option Addr), EnvAt T nb w E p → EnvAt T nb w' E p
  | [], p, h => by rw [EnvAt] at h ⊢; exact h
  | f :: r, p, h => by
    rw [EnvAt] at h ⊢
    obtain ⟨b, m, q, rfl, h1, h2, h3, h4, hb, hm, hr⟩ := h
    exact ⟨b, m, q, rfl, h1, h2, h3, h4, hp.blk hb (fun x => by rcases hx b x with y | y; omega; exact h2 y), hm.same (hp.block m hm.lt (fun x => by rcases hx m x with y | y; omega; exact h4 y)), EnvAt.part hp hx r q hr⟩
def EnvOk (N : List ByteArray) (E : List Fr) (sc : Sc) : Prop := ∀ q, (findE E q).map (·.1) = lookP sc q ∧ ∀ x k, findE E q = some (x, k) → numF N x = some k
def NumLe (N N' : List ByteArray) : Prop := ∀ x k, numF N x = some k → numF N' x = some k
theorem NumLe.refl (N : List ByteArray) : NumLe N N := fun _ _ h => h
theorem NumLe.trans {a b c : List ByteArray} (h : NumLe a b) (k : NumLe b c) : NumLe a c := fun x i hx => k x i (h x i hx)
def frS (f : Fr) : Sc := f.map fun x => (x.1, x.2.1)
theorem lookB_app (sc : Sc) (q : ByteArray) : ∀ f : Fr, lookB (frS f ++ sc) q = match findF f q with
    | some x => some x.1
    | none => lookB sc q
  | [] => rfl
  | b :: r => by
    show lookB ((b.1, b.2.1) :: (frS r ++ sc)) q = _
    rw [lookB, findF]
    by_cases h : b.1 = q
    · rw [if_pos h, if_pos h]
    · rw [if_neg h, if_neg h, lookB_app sc q r]
theorem findF_mem (q : ByteArray) : ∀ (f : Fr) (x : ByteArray × Nat), findF f q = some x → (q, x) ∈ f
  | b :: r, x, h => by
    rw [findF] at h
    by_cases h1 : b.1 = q
    · rw [if_pos h1] at h
      injection h with h
      rw [← h, ← h1]
      exact List.mem_cons_self ..
    · rw [if_neg h1] at h
      exact List.mem_cons_of_mem _ (findF_mem q r x h)
theorem EnvOk.push {N : List ByteArray} {E : List Fr} {sc : Sc} (h : EnvOk N E sc) (f : Fr) (hn : ∀ x ∈ f, numF N x.2.1 = some x.2.2) (hx : ∀ x ∈ f, x.1 ≠ xmlB) : EnvOk N (f :: E) (frS f ++ sc) := by
  intro q
  obtain ⟨h1, h2⟩ := h q
  rw [findE]
  unfold lookP at *
  cases hf : findF f q with
  | none =>
    refine ⟨?_, h2⟩
    rw [h1]
    split
    · rfl
    · rw [lookB_app, hf]
  | some x =>
    have hm := findF_mem q f x hf
    refine ⟨?_, fun y k e => ?_⟩
    · rw [if_neg (fun e => hx _ hm e), lookB_app, hf]
      rfl
    · injection e with e
      rw [e] at hm
      exact hn _ hm
theorem EnvOk.nil {N : List ByteArray} {E : List Fr} {sc : Sc} (h : EnvOk N E sc) : EnvOk N E (frS [] ++ sc) := h
theorem EnvOk.le {N N' : List ByteArray} {E : List Fr} {sc : Sc} (h : EnvOk N E sc) (hn : NumLe N N') : EnvOk N' E sc := fun q => ⟨(h q).1, fun x k hx => hn _ _ ((h q).2 x k hx)⟩
end Go.Proofs.YtoehcholbcchcaaDoor
end
