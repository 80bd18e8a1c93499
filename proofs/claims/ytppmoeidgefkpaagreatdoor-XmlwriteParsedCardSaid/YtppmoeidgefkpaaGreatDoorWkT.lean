/- Packed from the texts WrQ WrR WrS. -/
import Derived.Test.YtppmoeidgefkpaaGreatDoorWTextE
import Derived.Test.YtppmoeidgefkpaaGreatDoorWTextM
import Derived.Test.YtppmoeidgefkpaaGreatDoorWkB
import Derived.Test.YtppmoeidgefkpaaGreatDoorWkC
import Derived.Test.YtppmoeidgefkpaaGreatDoorWkD
import Derived.Test.YtppmoeidgefkpaaGreatDoorWkM
namespace Go.Proofs.YtppmoeidgefkpaaGreatDoor
section
open Go.RowKit
def stopB (c : UInt8) : Prop := c = 32 ∨ c = 47 ∨ c = 62 ∨ c = 61
theorem stop_facts {c : UInt8} (h : stopB c) : c.toNat < 128 ∧ qcB (c.toNat : Int) = false := by
 rcases h with rfl | rfl | rfl | rfl <;> decide
theorem dec_asc (s : ByteArray) (i : Nat) (c : UInt8) (h : s.data.toList[i]? = some c) (hc : c.toNat < 128) : (((decP s i).1 : Nat) : Int) = (c.toNat : Int) ∧ (decP s i).2 = 1 := by
 have hi : i < s.size := by
  have := (List.getElem?_eq_some_iff.1 h).1
  simpa using this
 have hb : byteZ s i = (c.toNat : Int) := by
  rw [byteZ_at s i hi]
  have h2 : s[i] = c := by
   rw [List.getElem?_eq_getElem (by simpa using hi)] at h
   have := Option.some.inj h
   rw [← this]
   simp [ByteArray.getElem_eq_getElem_data]
  rw [h2]
 have := dec_hit s i 1 (by omega) (by omega) (by omega) ((hit1 s i (by omega)).2 (by omega))
 rw [← hb]
 exact ⟨this.1, this.2⟩
theorem cond_pos (t : ByteArray) (k : Nat) (hk : k < t.size) (hc : (if k = 0 then qsB (decP t k).1 else qcB (decP t k).1) = true) : (decP t k).2 ≠ 0 := by
 intro h0
 rw [(decP_ok t k hk).2.2.2 h0] at hc
 split at hc <;> exact absurd hc (by decide)
theorem nl_run (a b : ByteArray) (c : UInt8) (hb : b.data.toList[0]? = some c) (hc : stopB c) (h0 : 0 < a.size) : ∀ f k g, a.size - k < f → k ≤ a.size → nlF a f k = a.size → (a ++ b).size - k < g → nlF (a ++ b) g k = a.size
 | 0, _, _, h, _, _, _ => absurd h (by omega)
 | f + 1, k, 0, _, _, _, h => absurd h (by omega)
 | f + 1, k, g + 1, hf, hk, hn, hg => by
  have hz : (a ++ b).size = a.size + b.size := ByteArray.size_append
  have hb1 : 0 < b.size := by rw [← bsl]; exact (List.getElem?_eq_some_iff.1 hb).1
  rw [nlF] at hn ⊢
  rw [if_pos (by omega)]
  by_cases hlt : k < a.size
  ·rw [if_pos hlt] at hn
   by_cases hC : (if k = 0 then qsB (decP a k).1 else qcB (decP a k).1) = true
   ·rw [if_pos hC] at hn
    have hp := cond_pos a k hlt hC
    rw [dec_left a b k hlt hp, if_pos hC]
    exact nl_run a b c hb hc h0 f _ g (by omega) (decP_ok a k hlt).1 hn (by omega)
   ·rw [if_neg hC] at hn
    omega
  ·obtain rfl : k = a.size := by omega
   obtain ⟨s1, s2⟩ := stop_facts hc
   have hd := dec_asc b 0 c hb s1
   have hr := dec_right a b 0
   rw [Nat.add_zero] at hr
   rw [hr, hd.1, if_neg (show ¬ a.size = 0 by omega), s2, if_neg (by decide)]
theorem nmP_name (nm : ByteArray) (c : UInt8) (r : List UInt8) (h : isQB nm = true) (hc : stopB c) : nmP (nm ++ oB (c :: r)) 0 = nm.size := by
 rw [isQB_nl, Bool.and_eq_true] at h
 have h0 : 0 < nm.size := of_decide_eq_true h.1
 have h1 : nlP nm = nm.size := of_decide_eq_true h.2
 rw [nmP_zero]
 unfold nlP at h1 ⊢
 exact nl_run nm (oB (c :: r)) c (by rw [oBl]; rfl) hc h0 _ 0 _ (by omega) (Nat.zero_le _) h1 (by omega)
theorem nmP_at (pre : List UInt8) (nm : ByteArray) (c : UInt8) (r : List UInt8) (h : isQB nm = true) (hc : stopB c) : nmP (oB (pre ++ (nm.data.toList ++ c :: r))) pre.length = pre.length + nm.size := by
 have e : oB (pre ++ (nm.data.toList ++ c :: r)) = oB pre ++ (nm ++ oB (c :: r)) := by
  rw [oBa, oBa, oBd]
 have hr := nmP_right (oB pre) (nm ++ oB (c :: r)) 0
 rw [oBz, Nat.add_zero] at hr
 rw [e, hr, nmP_name nm c r h hc]
theorem name_cons (nm : ByteArray) (h : isQB nm = true) : ∃ b t, nm.data.toList = b :: t ∧ b ≠ 33 ∧ b ≠ 47 ∧ b ≠ 63 ∧ b ≠ 62 ∧ spB b = false := by
 have h' := h
 rw [isQB_nl, Bool.and_eq_true] at h'
 have h0 : 0 < nm.size := of_decide_eq_true h'.1
 rw [isQB_pos nm h0, Bool.and_eq_true] at h
 cases hl : nm.data.toList with
 | nil => rw [← bsl, hl] at h0; exact absurd h0 (by decide)
 | cons b t =>
  refine ⟨b, t, rfl, ?_⟩
  have hg : nm.data.toList[0]? = some b := by rw [hl]; rfl
  have key : ∀ d : UInt8, d.toNat < 128 → qsB (d.toNat : Int) = false → b ≠ d := by
   rintro d h1 h2 rfl
   have hd := dec_asc nm 0 b hg h1
   rw [hd.1, h2] at h
   exact absurd h.1 (by decide)
  refine ⟨key 33 (by decide) (by decide), key 47 (by decide) (by decide), key 63 (by decide) (by decide), key 62 (by decide) (by decide), ?_⟩
  have k1 := key 32 (by decide) (by decide)
  have k2 := key 9 (by decide) (by decide)
  have k3 := key 10 (by decide) (by decide)
  have k4 := key 13 (by decide) (by decide)
  cases hs : spB b with
  | false => rfl
  | true =>
   exfalso
   have hall : ∀ x : Fin 256, spB (UInt8.ofNat x.val) = true → UInt8.ofNat x.val = 32 ∨ UInt8.ofNat x.val = 9 ∨ UInt8.ofNat x.val = 10 ∨ UInt8.ofNat x.val = 13 := by decide +kernel
   have := hall ⟨b.toNat, b.toNat_lt⟩
   simp only [UInt8.ofNat_toNat] at this
   rcases this hs with h | h | h | h
   ·exact k1 h
   ·exact k2 h
   ·exact k3 h
   ·exact k4 h
theorem esc_ne (a : Bool) (l : List UInt8) (hl : l ≠ []) : ∃ c r, escP a l = c :: r := by
 cases l with
 | nil => exact absurd rfl hl
 | cons x t =>
  rw [escP_cons]
  rcases esc_cases a x with ⟨h4, _⟩ | ⟨body, h4, _⟩
  ·exact ⟨_, _, by rw [h4]; rfl⟩
  ·exact ⟨_, _, by rw [h4]; rfl⟩
theorem data_cons (pre l r : List UInt8) (hl : l ≠ []) : consP (oB (pre ++ (escP false l ++ 60 :: r))) pre.length = (tokT l (pre.length : Int), ((pre.length + (escP false l).length : Nat) : Int), 0) := by
 have hfree := (esc_free l).1.1
 have hnext := next_lt (escP false l) pre r hfree
 have hcont := contP_esc false false (fun h => by cases h) l pre (60 :: r)
 rw [List.append_assoc _ (escP false l)] at hcont
 obtain ⟨c, t, hcr⟩ := esc_ne false l hl
 have hc : (pre ++ (escP false l ++ 60 :: r))[pre.length]? = some c := by
  rw [hcr]
  exact at_len _ c _ _ rfl
 have hne : c ≠ 60 := fun e => hfree (by rw [hcr, e]; exact List.mem_cons_self)
 have hde : dataEnd (oB (pre ++ (escP false l ++ 60 :: r))) pre.length = pre.length + (escP false l).length := by
  unfold dataEnd
  rw [oBl, hnext, if_neg (by omega), Int.toNat_natCast]
 unfold consP
 rw [oBl, hasP_no _ hc hne, hasP_no _ hc hne, hasP_no _ hc hne, hasP_no _ hc hne, hasP_no _ hc hne, hasP_no _ hc hne, hasP_no _ hc hne]
 rw [if_neg (by decide), if_neg (by decide), if_neg (by decide), if_neg (by decide), if_neg (by decide), if_neg (by decide), if_neg (by decide)]
 unfold dataP
 rw [hde, oBl, hcont]
theorem end_cons (pre : List UInt8) (nm : ByteArray) (r : List UInt8) (h : isQB nm = true) : consP (oB (pre ++ (60 :: 47 :: (nm.data.toList ++ 62 :: r)))) pre.length = (⟨2, nm.data.toList, [], false, [], (pre.length : Int)⟩, ((pre.length + nm.size + 3 : Nat) : Int), 0) := by
 have a0 : (pre ++ (60 :: 47 :: (nm.data.toList ++ 62 :: r)))[pre.length]? = some 60 := at_len _ _ _ _ rfl
 have e1 : pre ++ (60 :: 47 :: (nm.data.toList ++ 62 :: r)) = (pre ++ [60, 47]) ++ (nm.data.toList ++ 62 :: r) := by simp
 have l1 : (pre ++ [60, 47]).length = pre.length + 2 := by simp
 have a1 : (pre ++ (60 :: 47 :: (nm.data.toList ++ 62 :: r)))[pre.length + 1]? = some 47 := by
  rw [show pre ++ (60 :: 47 :: (nm.data.toList ++ 62 :: r)) = (pre ++ [60]) ++ 47 :: (nm.data.toList ++ 62 :: r) by simp]
  exact at_len _ _ _ _ (by simp)
 have hn := nmP_at (pre ++ [60, 47]) nm 62 r h (by unfold stopB; simp)
 rw [← e1, l1] at hn
 have a2 : (pre ++ (60 :: 47 :: (nm.data.toList ++ 62 :: r)))[pre.length + 2 + nm.size]? = some 62 := by
  rw [show pre ++ (60 :: 47 :: (nm.data.toList ++ 62 :: r)) = (pre ++ [60, 47] ++ nm.data.toList) ++ 62 :: r by simp]
  exact at_len _ _ _ _ (by simp; omega)
 obtain ⟨b, t, hb, -⟩ := name_cons nm h
 have hpos : 0 < nm.size := by rw [← bsl, hb]; exact Nat.succ_pos _
 have hE : endP (oB (pre ++ (60 :: 47 :: (nm.data.toList ++ 62 :: r)))) pre.length = (nm.data.toList, ((pre.length + nm.size + 3 : Nat) : Int), 0) := by
  rw [endP_def, hn, if_neg (by omega), oBl, spP_here _ _ 62 a2 (by decide), hasP_yes1 a2, if_pos rfl]
  have hN : ((pre ++ (60 :: 47 :: (nm.data.toList ++ 62 :: r))).drop (pre.length + 2)).take (pre.length + 2 + nm.size - (pre.length + 2)) = nm.data.toList := by
   rw [e1, ← l1, List.drop_left, l1, show pre.length + 2 + nm.size - (pre.length + 2) = nm.data.toList.length by rw [bsl]; omega, List.take_left]
  rw [hN]
  refine Prod.ext rfl (Prod.ext ?_ rfl)
  show ((pre.length + 2 + nm.size : Nat) : Int) + 1 = ((pre.length + nm.size + 3 : Nat) : Int)
  omega
 unfold consP
 rw [oBl, hasP_no2 60 63 [] a0 a1 (by decide), hasP_no2 60 33 [45, 45] a0 a1 (by decide), hasP_no2 60 33 [91, 67, 68, 65, 84, 65, 91] a0 a1 (by decide), hasP_no2 60 33 [68, 79, 67, 84, 89, 80, 69] a0 a1 (by decide), hasP_no2 60 33 [] a0 a1 (by decide), hasP_yes2 a0 a1]
 rw [if_neg (by decide), if_neg (by decide), if_neg (by decide), if_neg (by decide), if_neg (by decide), if_pos rfl, hE]
theorem attr_at (pre : List UInt8) (i : Nat) (x : AttrD) (r : List UInt8) (h : isQB x.nm = true) : attrP (oB (pre ++ (x.nm.data.toList ++ (61 :: 34 :: (escP true x.va.data.toList ++ 34 :: r))))) i pre.length = ((x.nm.data.toList, x.va.data.toList), ((pre.length + x.nm.size + 3 + (escP true x.va.data.toList).length : Nat) : Int), 0) := by
 obtain ⟨E, hE⟩ : ∃ E, escP true x.va.data.toList = E := ⟨_, rfl⟩
 have hfree := (esc_free x.va.data.toList).2
 rw [hE] at hfree
 obtain ⟨b, t, hb, -⟩ := name_cons x.nm h
 have hpos : 0 < x.nm.size := by rw [← bsl, hb]; exact Nat.succ_pos _
 have hn := nmP_at pre x.nm 61 (34 :: (E ++ 34 :: r)) h (by unfold stopB; simp)
 have a1 : (pre ++ (x.nm.data.toList ++ (61 :: 34 :: (E ++ 34 :: r))))[pre.length + x.nm.size]? = some 61 := by
  rw [← List.append_assoc]
  exact at_len _ _ _ _ (by simp)
 have a2 : (pre ++ (x.nm.data.toList ++ (61 :: 34 :: (E ++ 34 :: r))))[pre.length + x.nm.size + 1]? = some 34 := by
  rw [show pre ++ (x.nm.data.toList ++ (61 :: 34 :: (E ++ 34 :: r))) = (pre ++ x.nm.data.toList ++ [61]) ++ 34 :: (E ++ 34 :: r) by simp]
  exact at_len _ _ _ _ (by simp; omega)
 have ed : pre ++ (x.nm.data.toList ++ (61 :: 34 :: (E ++ 34 :: r))) = (pre ++ x.nm.data.toList ++ [61, 34]) ++ E ++ 34 :: r := by simp
 have ld : (pre ++ x.nm.data.toList ++ [61, 34]).length = pre.length + x.nm.size + 2 := by simp; omega
 have a3 : (pre ++ (x.nm.data.toList ++ (61 :: 34 :: (E ++ 34 :: r))))[pre.length + x.nm.size + 2 + E.length]? = some 34 := by
  rw [ed]
  exact at_len _ _ _ _ (by rw [List.length_append, ld])
 have hc := contP_esc true true (fun _ => rfl) x.va.data.toList (pre ++ x.nm.data.toList ++ [61, 34]) (34 :: r)
 have hq := quoAt_run 34 E (pre ++ x.nm.data.toList ++ [61, 34]) r (fun c hc => ⟨fun e => hfree.2.2.2.1 (e ▸ hc), fun e => hfree.1 (e ▸ hc)⟩)
 rw [hE, ← ed, ld] at hc
 rw [← ed, ld] at hq
 have hN : ((pre ++ (x.nm.data.toList ++ (61 :: 34 :: (E ++ 34 :: r)))).drop pre.length).take (pre.length + x.nm.size - pre.length) = x.nm.data.toList := by
  rw [List.drop_left, show pre.length + x.nm.size - pre.length = x.nm.data.toList.length by rw [bsl]; omega, List.take_left]
 rw [hE]
 clear ed ld hfree hb
 generalize pre ++ (x.nm.data.toList ++ (61 :: 34 :: (E ++ 34 :: r))) = S at *
 rw [attrP_def, hn, if_neg (by omega), oBl, hN, spP_here _ _ 61 a1 (by decide)]
 unfold attr1
 rw [oBl, hasP_yes1 a1, if_pos rfl, spP_here _ _ 34 a2 (by decide)]
 unfold attr2
 rw [oBl, hasP_yes1 a2, if_pos rfl, show pre.length + x.nm.size + 1 + 1 = pre.length + x.nm.size + 2 by omega, hq]
 unfold attr3
 rw [oBl, show pre.length + x.nm.size + 1 + 1 = pre.length + x.nm.size + 2 by omega, hc]
 obtain ⟨h3, h4⟩ := List.getElem?_eq_some_iff.1 a3
 rw [attr4_ok (by rw [oBz]; exact h3) (by rw [oBl]; exact h3) (y := 34) (by simp only [oBl]; exact h4) (by decide)]
 refine Prod.ext (Prod.ext rfl rfl) (Prod.ext ?_ rfl)
 show ((pre.length + x.nm.size + 2 + E.length : Nat) : Int) + 1 = ((pre.length + x.nm.size + 3 + E.length : Nat) : Int)
 omega
def keyA (x : AttrD) : ByteArray × ByteArray × ByteArray := (x.sp, x.nm, x.va)
def tagEnd (em : Bool) : List UInt8 := if em then [47, 62] else [62]
theorem startGo_attrs (em : Bool) (i : Nat) (N r : List UInt8) : ∀ (al : List AttrD) (pre : List UInt8) (acc done : List AttrD) (f : Nat), attrsOk done al = true → acc.map AttrD.nm = done.map AttrD.nm → al.length < f →
  ∃ al', al'.map keyA = al.map keyA ∧ startGo (oB (pre ++ (attrsF al ++ (tagEnd em ++ r)))) i N f pre.length acc = ⟨N, acc ++ al', em, ((pre.length + (attrsF al).length + (tagEnd em).length : Nat) : Int), 0⟩
 | _, _, _, _, 0, _, _, h => absurd h (by omega)
 | [], pre, acc, done, f + 1, _, _, _ => by
  refine ⟨[], rfl, ?_⟩
  rw [startGo, oBl]
  cases em
  ·have a0 : (pre ++ (attrsF [] ++ (tagEnd false ++ r)))[pre.length]? = some 62 := at_len _ 62 r _ rfl
   rw [spP_here _ _ 62 a0 (by decide), hasP_yes1 a0, if_pos rfl, List.append_nil]
   rfl
  ·have a0 : (pre ++ (attrsF [] ++ (tagEnd true ++ r)))[pre.length]? = some 47 := at_len _ 47 (62 :: r) _ rfl
   have a1 : (pre ++ (attrsF [] ++ (tagEnd true ++ r)))[pre.length + 1]? = some 62 := by
    rw [show pre ++ (attrsF [] ++ (tagEnd true ++ r)) = (pre ++ [47]) ++ 62 :: r by simp [attrsF, tagEnd]]
    exact at_len _ _ _ _ (by simp)
   rw [spP_here _ _ 47 a0 (by decide), hasP_no [] a0 (by decide), if_neg (by decide), hasP_yes2 a0 a1, if_pos rfl, List.append_nil]
   rfl
 | x :: al, pre, acc, done, f + 1, hok, hacc, hf => by
  rw [attrsOk, Bool.and_eq_true, Bool.and_eq_true] at hok
  obtain ⟨h1, h2, h3⟩ := hok
  unfold attrOk at h1
  rw [Bool.and_eq_true, Bool.and_eq_true] at h1
  obtain ⟨q1, q2, -⟩ := h1
  have hsp : x.sp = ⟨#[]⟩ := str_none (by unfold noneB at q1; simpa using q1)
  obtain ⟨b, t, hb, n1, n2, n3, n4, n5⟩ := name_cons x.nm q2
  have e1 : pre ++ (attrsF (x :: al) ++ (tagEnd em ++ r)) = (pre ++ [32]) ++ (x.nm.data.toList ++ (61 :: 34 :: (escP true x.va.data.toList ++ 34 :: (attrsF al ++ (tagEnd em ++ r))))) := by
   rw [attrsF_cons]; unfold attrF; simp
  have e2 : pre ++ (attrsF (x :: al) ++ (tagEnd em ++ r)) = (pre ++ attrF x) ++ (attrsF al ++ (tagEnd em ++ r)) := by rw [attrsF_cons]; simp
  have l1 : (pre ++ [32]).length = pre.length + 1 := by simp
  have l2 : (pre ++ attrF x).length = pre.length + 1 + x.nm.size + 3 + (escP true x.va.data.toList).length := by
   unfold attrF
   simp only [List.length_append, List.length_cons, List.length_nil, bsl]
   omega
  have a0 : (pre ++ (attrsF (x :: al) ++ (tagEnd em ++ r)))[pre.length]? = some 32 := by rw [e1, List.append_assoc]; exact at_len _ 32 _ _ rfl
  have a1 : (pre ++ (attrsF (x :: al) ++ (tagEnd em ++ r)))[pre.length + 1]? = some b := by rw [e1, hb]; exact at_len _ b _ _ l1.symm
  have hat := attr_at (pre ++ [32]) i x (attrsF al ++ (tagEnd em ++ r)) q2
  rw [← e1, l1] at hat
  have hsp1 : spP (pre ++ (attrsF (x :: al) ++ (tagEnd em ++ r))) pre.length = pre.length + 1 := by rw [spP_next _ _ 32 a0 (by decide), spP_here _ _ b a1 n5]
  obtain ⟨al', ha', hgo⟩ := startGo_attrs em i N r al (pre ++ attrF x) (acc ++ [attrOf x.nm.data.toList x.va.data.toList (pre.length + 1)]) (done ++ [x]) f h3 (by
   rw [List.map_append, List.map_append, hacc]
   simp [attrOf, oBd]) (by simp only [List.length_cons] at hf; omega)
  rw [← e2, l2] at hgo
  refine ⟨attrOf x.nm.data.toList x.va.data.toList (pre.length + 1) :: al', ?_, ?_⟩
  ·rw [List.map_cons, List.map_cons, ha']
   congr 1
   unfold keyA attrOf
   rw [hsp, oBd, oBd]
  ·have hdup : ¬ ∃ y ∈ acc, y.nm = oB x.nm.data.toList := by
    rintro ⟨y, hy, he⟩
    rw [oBd] at he
    have hm : x.nm ∈ done.map AttrD.nm := by rw [← hacc, ← he]; exact List.mem_map_of_mem hy
    obtain ⟨z, hz, hzn⟩ := List.mem_map.1 hm
    have : inNms x.nm done = true := by unfold inNms; rw [List.any_eq_true]; exact ⟨z, hz, by simpa using hzn⟩
    rw [this] at h2
    exact absurd h2 (by decide)
   rw [startGo, oBl, hsp1, hasP_no [] a1 n4, hasP_no [62] a1 n2, hasP_no [] a1 n2, if_neg (by decide), if_neg (by decide), if_neg (by decide), if_neg (by omega), hat, if_neg (by simp), if_neg hdup, Int.toNat_natCast, hgo]
   rw [List.append_assoc]
   have hlen : (attrsF (x :: al)).length = (attrF x).length + (attrsF al).length := by rw [attrsF_cons, List.length_append]
   have hl3 : (attrF x).length = 1 + x.nm.size + 3 + (escP true x.va.data.toList).length := by
    have := l2
    rw [List.length_append] at this
    omega
   rw [hlen, hl3]
   congr 1
   omega
theorem start_cons (pre : List UInt8) (nm : ByteArray) (al : List AttrD) (em : Bool) (r : List UInt8) (h : isQB nm = true) (ha : attrsOk [] al = true) :
  ∃ al', al'.map keyA = al.map keyA ∧ consP (oB (pre ++ (60 :: (nm.data.toList ++ (attrsF al ++ (tagEnd em ++ r)))))) pre.length = (⟨1, nm.data.toList, al', em, [], (pre.length : Int)⟩, ((pre.length + 1 + nm.size + (attrsF al).length + (tagEnd em).length : Nat) : Int), 0) := by
 obtain ⟨b, t, hb, n1, n2, n3, n4, n5⟩ := name_cons nm h
 have hpos : 0 < nm.size := by rw [← bsl, hb]; exact Nat.succ_pos _
 have e1 : pre ++ (60 :: (nm.data.toList ++ (attrsF al ++ (tagEnd em ++ r)))) = (pre ++ [60]) ++ (nm.data.toList ++ (attrsF al ++ (tagEnd em ++ r))) := by simp
 have e2 : pre ++ (60 :: (nm.data.toList ++ (attrsF al ++ (tagEnd em ++ r)))) = (pre ++ [60] ++ nm.data.toList) ++ (attrsF al ++ (tagEnd em ++ r)) := by simp
 have l1 : (pre ++ [60]).length = pre.length + 1 := by simp
 have l2 : (pre ++ [60] ++ nm.data.toList).length = pre.length + 1 + nm.size := by simp; omega
 have a0 : (pre ++ (60 :: (nm.data.toList ++ (attrsF al ++ (tagEnd em ++ r)))))[pre.length]? = some 60 := at_len _ _ _ _ rfl
 have a1 : (pre ++ (60 :: (nm.data.toList ++ (attrsF al ++ (tagEnd em ++ r)))))[pre.length + 1]? = some b := by rw [e1, hb]; exact at_len _ b _ _ l1.symm
 obtain ⟨c, z, hcz, hst⟩ : ∃ c z, attrsF al ++ (tagEnd em ++ r) = c :: z ∧ stopB c := by
  cases al with
  | nil =>
       cases em
       ·exact ⟨62, r, rfl, by unfold stopB; simp⟩
       ·exact ⟨47, 62 :: r, rfl, by unfold stopB; simp⟩
  | cons x al => exact ⟨32, _, by rw [attrsF_cons]; rfl, by unfold stopB; simp⟩
 have hn := nmP_at (pre ++ [60]) nm c z h hst
 rw [← hcz, ← e1, l1] at hn
 have hN : ((pre ++ (60 :: (nm.data.toList ++ (attrsF al ++ (tagEnd em ++ r))))).drop (pre.length + 1)).take (pre.length + 1 + nm.size - (pre.length + 1)) = nm.data.toList := by
  rw [e1, ← l1, List.drop_left, l1, show pre.length + 1 + nm.size - (pre.length + 1) = nm.data.toList.length by rw [bsl]; omega, List.take_left]
 obtain ⟨al', ha', hgo⟩ := startGo_attrs em pre.length nm.data.toList r al (pre ++ [60] ++ nm.data.toList) [] [] ((oB (pre ++ (60 :: (nm.data.toList ++ (attrsF al ++ (tagEnd em ++ r)))))).size + 1) ha rfl (by
  have h5 := congrArg List.length e2
  have h6 : ∀ a b c : List UInt8, (a ++ (b ++ c)).length = a.length + (b.length + c.length) := fun a b c => by simp
  rw [h6] at h5
  rw [oBz]
  have : ∀ l : List AttrD, l.length ≤ (attrsF l).length := fun l => by
   induction l with
   | nil => exact Nat.le_refl _
   | cons y l ih => rw [attrsF_cons, List.length_append, List.length_cons]; unfold attrF; rw [List.length_cons]; omega
  have := this al
  omega)
 rw [← e2, l2, List.nil_append] at hgo
 refine ⟨al', ha', ?_⟩
 have hS : startP (oB (pre ++ (60 :: (nm.data.toList ++ (attrsF al ++ (tagEnd em ++ r)))))) pre.length = ⟨nm.data.toList, al', em, ((pre.length + 1 + nm.size + (attrsF al).length + (tagEnd em).length : Nat) : Int), 0⟩ := by
  unfold startP
  rw [hn, if_neg (by omega), oBl, hN, hgo]
 unfold consP
 rw [oBl, hasP_no2 60 63 [] a0 a1 n3, hasP_no2 60 33 [45, 45] a0 a1 n1, hasP_no2 60 33 [91, 67, 68, 65, 84, 65, 91] a0 a1 n1, hasP_no2 60 33 [68, 79, 67, 84, 89, 80, 69] a0 a1 n1, hasP_no2 60 33 [] a0 a1 n1, hasP_no2 60 47 [] a0 a1 n2, hasP_yes1 a0]
 rw [if_neg (by decide), if_neg (by decide), if_neg (by decide), if_neg (by decide), if_neg (by decide), if_neg (by decide), if_pos rfl, hS]
end
section
open Go.RowKit
def tgo9 (s : ByteArray) (a : Nat) (acc : List TokD) : List TokD × Int × Int := tokGo s (s.size + 1) a acc
theorem tgo_keep {s : ByteArray} {a z : Nat} {t : TokD} (acc : List TokD) (h : a < s.size) (hz : z ≤ s.size) (hc : consP s a = (t, (z : Int), 0)) (hk : t.kind ≠ 3 ∨ t.tx ≠ []) : tgo9 s a acc = tgo9 s z (acc ++ [t]) := by
 unfold tgo9
 rw [tok_step s s.size a acc h hc hk, Int.toNat_natCast]
 obtain ⟨z', hz', h1, h2⟩ := consP_ok s a h (by rw [hc])
 rw [hc] at hz'
 have h9 : (z : Int) = (z' : Int) := hz'
 have : z = z' := by omega
 exact tokGo_more s _ _ z _ (by omega) (by omega)
theorem tgo_drop {s : ByteArray} {a z : Nat} {t : TokD} (acc : List TokD) (h : a < s.size) (hc : consP s a = (t, (z : Int), 0)) (hk : ¬ (t.kind ≠ 3 ∨ t.tx ≠ [])) : tgo9 s a acc = tgo9 s z acc := by
 unfold tgo9
 obtain ⟨z', hz', h1, h2⟩ := consP_ok s a h (by rw [hc])
 rw [hc] at hz'
 have h9 : (z : Int) = (z' : Int) := hz'
 have : z = z' := by omega
 rw [tokGo, if_pos h, hc]
 simp only [ne_eq, not_true_eq_false, if_false, Int.toNat_natCast]
 rw [if_neg hk]
 exact tokGo_more s _ _ z _ (by omega) (by omega)
theorem tgo_end (s : ByteArray) (acc : List TokD) : tgo9 s s.size acc = (acc, (s.size : Int), 0) := tok_stop s _ _ _ (Nat.le_refl _)
def addKids (ks : List NodeD) (n : NodeD) : NodeD := ks.foldl (fun n k => addKid k n) n
theorem addKids_eq : ∀ (ks : List NodeD) (kd : Int) (s n : ByteArray) (al : List AttrD) (l : List NodeD) (t : ByteArray) (a : Int), addKids ks (.mk kd s n al l t a) = .mk kd s n al (l ++ ks) t a
 | [], _, _, _, _, _, _, _ => by rw [List.append_nil]; rfl
 | k :: r, kd, s, n, al, l, t, a => by
  show addKids r (.mk kd s n al (l ++ [k]) t a) = _
  rw [addKids_eq r, List.append_assoc]
  rfl
theorem flush_nm (m : Mac) : (flushM m).top.nm = m.top.nm := by
 unfold flushM
 split
 ·rfl
 ·show (addKid _ m.top).nm = _
  cases m.top; rfl
theorem flush_none {m : Mac} (h : m.data = []) : flushM m = m := by unfold flushM; rw [if_pos h]
theorem allEq_keys : ∀ (a b : List AttrD), a.map keyA = b.map keyA → allEq false a b = true
 | [], _, _ => by rw [allEq]
 | x :: r, [], h => by cases h
 | x :: r, y :: q, h => by
  rw [List.map_cons, List.map_cons] at h
  injection h with h1 h2
  rw [allEq, allEq_keys r q h2, Bool.and_true]
  unfold keyA at h1
  injection h1 with e1 h1
  injection h1 with e2 e3
  unfold attrEqB
  simp [e1, e2, e3]
theorem keys_len {a b : List AttrD} (h : a.map keyA = b.map keyA) : a.length = b.length := by
 have := congrArg List.length h
 simpa using this
def AllEq2 (l m : List NodeD) : Prop := l.length = m.length ∧ eqsB false l m = true
theorem AllEq2.cons {k k' : NodeD} {l m : List NodeD} (h : k'.eqB false k = true) (hl : AllEq2 l m) : AllEq2 (k' :: l) (k :: m) := ⟨by simp [hl.1], by rw [eqsB, h, hl.2]; rfl⟩
def ElT (n : NodeD) (T : List TokD) : Prop := ∃ n', n'.eqB false n = true ∧ ∀ (m : Mac) (R : List TokD), ¬ (m.up = [] ∧ m.top.kids ≠ []) → (flushM m).up.length + n.depth ≤ 100 → ∃ d, runM m (T ++ R) = runM ⟨addKid n' (flushM m).top, m.up, [], d⟩ R
def KsT (pv : Bool) (l : List NodeD) (T : List TokD) : Prop := ∃ l', AllEq2 l' l ∧ ∀ (m : Mac) (R : List TokD), m.up ≠ [] → (∀ k ∈ l, m.up.length + k.depth ≤ 100) → (pv = false → m.data = []) → ∃ m2, runM m (T ++ R) = runM m2 R ∧ m2.up = m.up ∧ (flushM m2).top = addKids l' (flushM m).top
theorem runM_cons (m : Mac) (t : TokD) (R : List TokD) (m' : Mac) (h : addM m t = (m', 0)) : runM m (t :: R) = runM m' R := by rw [runM, h]; rfl
theorem KsT.nil (pv : Bool) : KsT pv [] [] := ⟨[], ⟨rfl, by rw [eqsB]⟩, fun m _ _ _ _ => ⟨m, rfl, rfl, rfl⟩⟩
theorem KsT.data {l : List NodeD} {T : List TokD} {k : NodeD} (hk : k.kind = 1) (hd : k.dataOk = true) (a : Int) (h : KsT true l T) : KsT false (k :: l) (tokT k.tx.data.toList a :: T) := by
 obtain ⟨l', he, hr⟩ := h
 unfold NodeD.dataOk at hd
 simp only [Bool.and_eq_true, Bool.not_eq_true', noneB, beq_iff_eq, beq_eq_false_iff_ne] at hd
 obtain ⟨h1, h2, h3, h4, h5, h6⟩ := hd
 refine ⟨charK k.tx.data.toList a :: l', AllEq2.cons ?_ he, fun m R hu hdp hpv => ?_⟩
 ·unfold charK
  rw [eq_eq]
  have e1 : headEq false (.mk 1 noB noB [] [] (oB k.tx.data.toList) a) k = true := by
   exact decide_eq_true ⟨hk.symm, (str_none h3).symm, (str_none h4).symm, oBd _, (fun h => absurd h (by decide)), h5.symm, h6.symm⟩
  rw [e1]
  show (true && (allEq false [] k.al && eqsB false [] k.kids)) = true
  rw [allEq, eqsB]
  rfl
 ·have hm := hpv rfl
  have hne : k.tx.data.toList ≠ [] := fun e => h1 (by rw [← bsl, e]; rfl)
  have hadd : addM m (tokT k.tx.data.toList a) = ({ m with data := m.data ++ k.tx.data.toList, dat := a }, 0) := by
   show (if (3 : Int) = 1 then _ else if (3 : Int) = 2 then _ else textM m (tokT k.tx.data.toList a)) = _
   rw [if_neg (by decide), if_neg (by decide)]
   unfold textM
   rw [if_neg hu, if_pos hm]
   rfl
  rw [List.cons_append, runM_cons _ _ _ _ hadd]
  obtain ⟨m2, hr1, hr2, hr3⟩ := hr { m with data := m.data ++ k.tx.data.toList, dat := a } R hu (fun x hx => hdp x (List.mem_cons_of_mem _ hx)) (fun h => by cases h)
  refine ⟨m2, hr1, hr2, ?_⟩
  rw [hr3, flush_none hm]
  unfold flushM
  rw [if_neg (by simp [hm, hne])]
  show addKids l' (addKid (charK (m.data ++ k.tx.data.toList) a) m.top) = addKids l' (addKid (charK k.tx.data.toList a) m.top)
  rw [hm, List.nil_append]
theorem KsT.elem {l : List NodeD} {T S : List TokD} {k : NodeD} (pv : Bool) (hT : ElT k S) (h : KsT false l T) : KsT pv (k :: l) (S ++ T) := by
 obtain ⟨k', hk', hrk⟩ := hT
 obtain ⟨l', he, hr⟩ := h
 refine ⟨k' :: l', AllEq2.cons hk' he, fun m R hu hdp _ => ?_⟩
 have hup : (flushM m).up = m.up := flushM_up m
 obtain ⟨d, hd⟩ := hrk m (T ++ R) (fun e => hu e.1) (by rw [hup]; exact hdp k List.mem_cons_self)
 obtain ⟨m2, hr1, hr2, hr3⟩ := hr ⟨addKid k' (flushM m).top, m.up, [], d⟩ R hu (fun x hx => hdp x (List.mem_cons_of_mem _ hx)) (fun _ => rfl)
 refine ⟨m2, by rw [List.append_assoc, hd, hr1], hr2, ?_⟩
 rw [hr3, flush_none rfl]
 rfl
theorem ElT.mk {n : NodeD} {al' : List AttrD} {T : List TokD} (a b : Int) (hk : n.kind = 0) (hh : n.headOk = true) (ha : al'.map keyA = n.al.map keyA) (h : KsT false n.kids T) : ElT n (⟨1, n.nm.data.toList, al', false, [], a⟩ :: (T ++ [⟨2, n.nm.data.toList, [], false, [], b⟩])) := by
 obtain ⟨l', he, hr⟩ := h
 unfold NodeD.headOk at hh
 simp only [Bool.and_eq_true, noneB, beq_iff_eq] at hh
 obtain ⟨h1, h2, h3⟩ := hh
 refine ⟨.mk 0 noB n.nm al' l' noB a, ?_, fun m R hu hdp => ?_⟩
 ·rw [eq_eq]
  have e1 : headEq false (.mk 0 noB n.nm al' l' noB a) n = true := by
   exact decide_eq_true ⟨hk.symm, (str_none h1).symm, rfl, (str_none h2).symm, (fun h => absurd h (by decide)), keys_len ha, he.1⟩
  rw [e1]
  show (true && (allEq false al' n.al && eqsB false l' n.kids)) = true
  rw [allEq_keys _ _ ha, he.2]
  rfl
 ·have hup : (flushM m).up = m.up := flushM_up m
  have hdep := depth_eq n
  rw [if_neg (by omega)] at hdep
  have hkd : ∀ k ∈ n.kids, k.depth ≤ depths n.kids 0 := ((depths_le n.kids 0 _).1 (Nat.le_refl _)).2
  obtain ⟨t, ht⟩ : ∃ t : TokD, t = ⟨1, n.nm.data.toList, al', false, [], a⟩ := ⟨_, rfl⟩
  have hadd : addM m t = ({ flushM m with top := elemN t [], up := (flushM m).top :: (flushM m).up }, 0) := by
   unfold addM startM
   rw [if_pos (by rw [ht]), if_neg hu, if_neg (by rw [hup] at hdp; omega), if_neg (by rw [ht]; simp)]
  rw [← ht, List.cons_append, runM_cons _ _ _ _ hadd]
  obtain ⟨m2, hr1, hr2, hr3⟩ := hr { flushM m with top := elemN t [], up := (flushM m).top :: (flushM m).up } (⟨2, n.nm.data.toList, [], false, [], b⟩ :: R) (by simp) (fun k hk => by
   have := hkd k hk
   show ((flushM m).top :: (flushM m).up).length + k.depth ≤ 100
   rw [List.length_cons]
   omega) (fun _ => flushM_data m)
  have hel : elemN t [] = .mk 0 noB n.nm al' [] noB a := by
   rw [ht]
   unfold elemN
   simp [oBd]
  rw [flush_none (show ({ flushM m with top := elemN t [], up := (flushM m).top :: (flushM m).up } : Mac).data = [] from flushM_data m)] at hr3
  simp only at hr2 hr3
  rw [hel, addKids_eq, List.nil_append] at hr3
  have hnm : m2.top.nm = n.nm := by rw [← flush_nm, hr3]; rfl
  refine ⟨(flushM m2).dat, ?_⟩
  have hadd2 : addM m2 ⟨2, n.nm.data.toList, [], false, [], b⟩ = (⟨addKid (.mk 0 noB n.nm al' l' noB a) (flushM m).top, m.up, [], (flushM m2).dat⟩, 0) := by
   show (if (2 : Int) = 1 then _ else if (2 : Int) = 2 then endM m2 _ else _) = _
   rw [if_neg (by decide), if_pos rfl]
   unfold endM
   rw [if_neg (by rw [hr2]; simp), if_neg (by rw [hnm, oBd]; simp)]
   unfold popM
   have hup2 : (flushM m2).up = (flushM m).top :: (flushM m).up := by rw [flushM_up, hr2]
   rw [hup2]
   simp only
   have hfd := flushM_data m2
   rw [hr3, hup]
   generalize flushM m2 = m3 at *
   obtain ⟨t3, u3, d3, a3⟩ := m3
   simp only at hfd
   subst hfd
   rfl
  rw [List.append_assoc, List.singleton_append]
  exact hr1.trans (runM_cons _ _ _ _ hadd2)
theorem ElT.empty {n : NodeD} {al' : List AttrD} (a : Int) (hk : n.kind = 0) (hh : n.headOk = true) (ha : al'.map keyA = n.al.map keyA) (hne : n.kids = []) : ElT n [⟨1, n.nm.data.toList, al', true, [], a⟩] := by
 unfold NodeD.headOk at hh
 simp only [Bool.and_eq_true, noneB, beq_iff_eq] at hh
 obtain ⟨h1, h2, h3⟩ := hh
 refine ⟨.mk 0 noB n.nm al' [] noB a, ?_, fun m R hu hdp => ?_⟩
 ·rw [eq_eq]
  have e1 : headEq false (.mk 0 noB n.nm al' [] noB a) n = true := by
   exact decide_eq_true ⟨hk.symm, (str_none h1).symm, rfl, (str_none h2).symm, (fun h => absurd h (by decide)), keys_len ha, by rw [hne]; rfl⟩
  rw [e1]
  show (true && (allEq false al' n.al && eqsB false [] n.kids)) = true
  rw [allEq_keys _ _ ha, eqsB]
  rfl
 ·have hup : (flushM m).up = m.up := flushM_up m
  have hdep := depth_eq n
  rw [if_neg (by omega)] at hdep
  refine ⟨(flushM m).dat, ?_⟩
  rw [List.singleton_append]
  refine runM_cons _ _ _ _ ?_
  have hfd := flushM_data m
  unfold addM startM
  rw [if_pos rfl, if_neg hu, if_neg (by rw [hup] at hdp; omega), if_pos rfl]
  have hel : elemN (⟨1, n.nm.data.toList, al', true, [], a⟩ : TokD) [] = .mk 0 noB n.nm al' [] noB a := by
   unfold elemN
   simp [oBd]
  rw [hel]
  generalize flushM m = m3 at *
  obtain ⟨t3, u3, d3, a3⟩ := m3
  simp only at hfd hup
  subst hfd hup
  rfl
theorem form_head {n : NodeD} (h : ¬ n.kind = 1) : ∃ t, n.form = 60 :: t := ⟨_, by rw [form_eq, if_neg h]⟩
theorem form_empty {n : NodeD} (h : n.kind = 0) (hk : n.kids = []) (r : List UInt8) : n.form ++ r = 60 :: (n.nm.data.toList ++ (attrsF n.al ++ (tagEnd true ++ r))) := by
 rw [form_eq, if_neg (by omega), if_pos (by rw [hk]; rfl)]
 simp [tagEnd]
theorem form_full {n : NodeD} (h : n.kind = 0) (hk : n.kids ≠ []) (r : List UInt8) : n.form ++ r = 60 :: (n.nm.data.toList ++ (attrsF n.al ++ (tagEnd false ++ (forms n.kids ++ (60 :: 47 :: (n.nm.data.toList ++ 62 :: r)))))) := by
 rw [form_eq, if_neg (by omega), if_neg (fun e => hk (List.length_eq_zero_iff.1 e))]
 simp [tagEnd]
def NdForm (n : NodeD) : Prop := n.kind = 0 → n.okB = true → ∀ pre r : List UInt8, ∃ T, ElT n T ∧ ∀ acc, tgo9 (oB (pre ++ (n.form ++ r))) pre.length acc = tgo9 (oB (pre ++ (n.form ++ r))) (pre.length + n.form.length) (acc ++ T)
def KdForm (l : List NodeD) : Prop := ∀ pv, okBs pv l = true → ∀ pre r : List UInt8, ∃ T, KsT pv l T ∧ ∀ acc, tgo9 (oB (pre ++ (forms l ++ 60 :: r))) pre.length acc = tgo9 (oB (pre ++ (forms l ++ 60 :: r))) (pre.length + (forms l).length) (acc ++ T)
theorem kform_nil : KdForm [] := fun pv _ pre r => ⟨[], KsT.nil pv, fun acc => by rw [List.append_nil]; rfl⟩
theorem kform_cons (k : NodeD) (l : List NodeD) (hk : NdForm k) (hl : KdForm l) : KdForm (k :: l) := by
 intro pv hok pre r
 rw [okBs, Bool.and_eq_true, Bool.and_eq_true] at hok
 obtain ⟨⟨h1, h2⟩, h3⟩ := hok
 have ef : forms (k :: l) = k.form ++ forms l := by rw [forms]
 have e1 : pre ++ (forms (k :: l) ++ 60 :: r) = pre ++ (k.form ++ (forms l ++ 60 :: r)) := by rw [ef, List.append_assoc]
 have e2 : pre ++ (forms (k :: l) ++ 60 :: r) = (pre ++ k.form) ++ (forms l ++ 60 :: r) := by rw [e1, List.append_assoc]
 have lf : (forms (k :: l)).length = k.form.length + (forms l).length := by rw [ef, List.length_append]
 have l2 : (pre ++ k.form).length = pre.length + k.form.length := List.length_append
 by_cases hk1 : k.kind = 1
 ·have hcd : k.isCD = true := decide_eq_true hk1
  rw [hcd, Bool.and_true] at h2
  have hpv : pv = false := by cases pv <;> simp_all
  rw [hcd] at h3
  rw [ok_eq, if_pos hk1] at h1
  have hne : k.tx.data.toList ≠ [] := by
   have h1' := h1
   unfold NodeD.dataOk at h1'
   simp only [Bool.and_eq_true, Bool.not_eq_true', noneB, beq_eq_false_iff_ne] at h1'
   intro e
   exact h1'.1 (by rw [← bsl, e]; rfl)
  have hfm : k.form = escP false k.tx.data.toList := by rw [form_eq, if_pos hk1]
  obtain ⟨z, hz⟩ : ∃ z, forms l ++ 60 :: r = 60 :: z := by
   cases l with
   | nil => exact ⟨r, by rw [forms]; rfl⟩
   | cons x q =>
    rw [okBs, Bool.and_eq_true, Bool.and_eq_true, Bool.true_and] at h3
    have hx1 : ¬ x.kind = 1 := fun e => by
     have : x.isCD = true := decide_eq_true e
     rw [this] at h3
     exact absurd h3.1.2 (by decide)
    obtain ⟨t, ht⟩ := form_head hx1
    exact ⟨t ++ (forms q ++ 60 :: r), by rw [forms, ht]; simp⟩
  obtain ⟨T, hT, hgo⟩ := hl true h3 (pre ++ k.form) r
  rw [← e2, l2] at hgo
  have hc := data_cons pre k.tx.data.toList z hne
  rw [← hz, ← hfm, ← e1] at hc
  refine ⟨tokT k.tx.data.toList pre.length :: T, hpv ▸ KsT.data hk1 h1 _ hT, fun acc => ?_⟩
  have hsz : (oB (pre ++ (forms (k :: l) ++ 60 :: r))).size = pre.length + (k.form.length + (forms l).length + (r.length + 1)) := by
   rw [oBz, List.length_append, List.length_append, lf, List.length_cons]
  rw [tgo_keep acc (by rw [hsz]; omega) (by rw [hsz]; omega) hc (.inr hne), hgo, lf, List.append_assoc]
  rw [Nat.add_assoc]
  rfl
 ·have hk0 : k.kind = 0 := by
   by_cases h : k.kind = 0
   ·exact h
   ·rw [ok_eq, if_neg hk1, if_neg h] at h1; cases h1
  have hcd : k.isCD = false := decide_eq_false hk1
  rw [hcd] at h3
  obtain ⟨S, hS, hgk⟩ := hk hk0 h1 pre (forms l ++ 60 :: r)
  rw [← e1] at hgk
  obtain ⟨T, hT, hgo⟩ := hl false h3 (pre ++ k.form) r
  rw [← e2, l2] at hgo
  refine ⟨S ++ T, KsT.elem pv hS hT, fun acc => ?_⟩
  rw [hgk, hgo, lf, List.append_assoc, Nat.add_assoc]
theorem nform_mk (n : NodeD) (hl : KdForm n.kids) : NdForm n := by
 intro hk hok pre r
 rw [ok_eq, if_neg (by omega), if_pos hk, Bool.and_eq_true, Bool.and_eq_true] at hok
 obtain ⟨h1, h2, h3⟩ := hok
 have hq : isQB n.nm = true := by
  have := h1
  unfold NodeD.headOk at this
  rw [Bool.and_eq_true, Bool.and_eq_true] at this
  exact this.2.2
 by_cases hks : n.kids = []
 ·have ef := form_empty hk hks r
  obtain ⟨al', ha, hc⟩ := start_cons pre n.nm n.al true r hq h2
  rw [← ef] at hc
  have hlen : n.form.length = 1 + n.nm.size + (attrsF n.al).length + (tagEnd true).length := by
   have := congrArg List.length (form_empty hk hks [])
   simp only [List.append_nil, List.length_cons, List.length_append, bsl] at this
   omega
  have hsz : (oB (pre ++ (n.form ++ r))).size = pre.length + (n.form.length + r.length) := by rw [oBz, List.length_append, List.length_append]
  refine ⟨[⟨1, n.nm.data.toList, al', true, [], (pre.length : Int)⟩], ElT.empty _ hk h1 ha hks, fun acc => ?_⟩
  rw [tgo_keep acc (by rw [hsz]; omega) (by rw [hsz]; omega) hc (.inl (by simp)), hlen]
  congr 1
  omega
 ·have ef := form_full hk hks r
  obtain ⟨al', ha, hc⟩ := start_cons pre n.nm n.al false (forms n.kids ++ (60 :: 47 :: (n.nm.data.toList ++ 62 :: r))) hq h2
  rw [← ef] at hc
  have e2 : pre ++ (n.form ++ r) = (pre ++ (60 :: (n.nm.data.toList ++ (attrsF n.al ++ tagEnd false)))) ++ (forms n.kids ++ 60 :: (47 :: (n.nm.data.toList ++ 62 :: r))) := by rw [ef]; simp
  have l2 : (pre ++ (60 :: (n.nm.data.toList ++ (attrsF n.al ++ tagEnd false)))).length = pre.length + 1 + n.nm.size + (attrsF n.al).length + (tagEnd false).length := by
   simp only [List.length_append, List.length_cons, bsl]
   omega
  have e3 : pre ++ (n.form ++ r) = (pre ++ (60 :: (n.nm.data.toList ++ (attrsF n.al ++ (tagEnd false ++ forms n.kids))))) ++ (60 :: 47 :: (n.nm.data.toList ++ 62 :: r)) := by rw [ef]; simp
  have l3 : (pre ++ (60 :: (n.nm.data.toList ++ (attrsF n.al ++ (tagEnd false ++ forms n.kids))))).length = pre.length + 1 + n.nm.size + (attrsF n.al).length + (tagEnd false).length + (forms n.kids).length := by
   simp only [List.length_append, List.length_cons, bsl]
   omega
  obtain ⟨T, hT, hgo⟩ := hl false h3 (pre ++ (60 :: (n.nm.data.toList ++ (attrsF n.al ++ tagEnd false)))) (47 :: (n.nm.data.toList ++ 62 :: r))
  rw [← e2, l2] at hgo
  have hce := end_cons (pre ++ (60 :: (n.nm.data.toList ++ (attrsF n.al ++ (tagEnd false ++ forms n.kids))))) n.nm r hq
  rw [← e3, l3] at hce
  have hlen : n.form.length = 1 + n.nm.size + (attrsF n.al).length + (tagEnd false).length + (forms n.kids).length + (3 + n.nm.size) := by
   have := congrArg List.length (form_full hk hks [])
   simp only [List.append_nil, List.length_cons, List.length_append, bsl, List.length_nil] at this
   omega
  have hsz : (oB (pre ++ (n.form ++ r))).size = pre.length + (n.form.length + r.length) := by rw [oBz, List.length_append, List.length_append]
  refine ⟨_, ElT.mk (pre.length : Int) ((pre.length + 1 + n.nm.size + (attrsF n.al).length + (tagEnd false).length + (forms n.kids).length : Nat) : Int) hk h1 ha hT, fun acc => ?_⟩
  rw [tgo_keep acc (by rw [hsz]; omega) (by rw [hsz]; omega) hc (.inl (by simp)), hgo, tgo_keep _ (by rw [hsz]; omega) (by rw [hsz]; omega) hce (.inl (by simp)), hlen]
  have hA : acc ++ [(⟨1, n.nm.data.toList, al', false, [], (pre.length : Int)⟩ : TokD)] ++ T ++ [⟨2, n.nm.data.toList, [], false, [], ((pre.length + 1 + n.nm.size + (attrsF n.al).length + (tagEnd false).length + (forms n.kids).length : Nat) : Int)⟩] = acc ++ (⟨1, n.nm.data.toList, al', false, [], (pre.length : Int)⟩ :: (T ++ [⟨2, n.nm.data.toList, [], false, [], ((pre.length + 1 + n.nm.size + (attrsF n.al).length + (tagEnd false).length + (forms n.kids).length : Nat) : Int)⟩])) := by simp
  rw [hA]
  congr 1
  omega
mutual
theorem nform : ∀ n : NodeD, NdForm n
 | .mk k s nm al kids t a => nform_mk (.mk k s nm al kids t a) (kform kids)
theorem kform : ∀ l : List NodeD, KdForm l
 | [] => kform_nil
 | k :: r => kform_cons k r (nform k) (kform r)
end
end
section
open Go.RowKit
theorem qc_chars {r : Int} (h : qcB r = true) : isCharB r = true := by
 unfold qcB nameCharB nameStartB nsLetter nsLow nsMiddle nsHigh at h
 unfold isCharB
 simp only [Bool.or_eq_true, decide_eq_true_eq, beq_iff_eq] at h
 apply decide_eq_true
 omega
theorem qs_qc {r : Int} (h : qsB r = true) : qcB r = true := by
 unfold qsB at h
 unfold qcB nameCharB
 simp only [Bool.or_eq_true] at h ⊢
 rcases h with h | h
 ·exact .inl h
 ·exact .inr (.inl h)
theorem chk_run (a : ByteArray) : ∀ f k, a.size - k < f → nlF a f k = a.size → k ≤ a.size → (chkAt a k).2 = 0
 | 0, _, h, _, _ => absurd h (by omega)
 | f + 1, k, hf, hn, hk => by
  by_cases hlt : k < a.size
  ·rw [nlF, if_pos hlt] at hn
   by_cases hC : (if k = 0 then qsB (decP a k).1 else qcB (decP a k).1) = true
   ·rw [if_pos hC] at hn
    have hp := cond_pos a k hlt hC
    have hq : qcB (decP a k).1 = true := by
     split at hC
     ·exact qs_qc hC
     ·exact hC
    rw [chkAt_eq a k hlt, if_neg hp, if_pos (qc_chars hq)]
    exact chk_run a f _ (by omega) hn (decP_ok a k hlt).1
   ·rw [if_neg hC] at hn
    omega
  ·rw [chkAt_end a k (by omega)]
theorem okL_name (nm : ByteArray) (h : isQB nm = true) : okL nm.data.toList := by
 rw [isQB_nl, Bool.and_eq_true] at h
 have h1 : nlP nm = nm.size := of_decide_eq_true h.2
 refine okL_of nm ?_
 unfold nlP at h1
 exact chk_run nm _ 0 (by omega) h1 (Nat.zero_le _)
theorem okL_and {a b : List UInt8} (ha : okL a) (hb : okL b) : okL (a ++ b) := (okL_app a b ha).2 hb
theorem okL_cons1 (c : UInt8) {b : List UInt8} (hc : okL [c]) (hb : okL b) : okL (c :: b) := okL_and (a := [c]) hc hb
theorem okL_chars (s : ByteArray) (a : Bool) (h : charsB s = true) : okL (escP a s.data.toList) := okL_esc a _ _ (Nat.le_refl _) (okL_of s (by unfold charsB at h; simpa using h))
theorem okL_attrs : ∀ (l done : List AttrD), attrsOk done l = true → okL (attrsF l)
 | [], _, _ => okL_nil
 | x :: r, done, h => by
  rw [attrsOk, Bool.and_eq_true, Bool.and_eq_true] at h
  obtain ⟨h1, -, h3⟩ := h
  unfold attrOk at h1
  rw [Bool.and_eq_true, Bool.and_eq_true] at h1
  rw [attrsF_cons]
  refine okL_and ?_ (okL_attrs r _ h3)
  unfold attrF
  refine okL_cons1 32 (okL_ascii _ (by decide)) (okL_and (okL_name _ h1.2.1) (okL_and (a := [61, 34]) (okL_ascii _ (by decide)) (okL_and (okL_chars _ true h1.2.2) (okL_ascii _ (by decide)))))
mutual
theorem okL_form : ∀ n : NodeD, n.okB = true → okL n.form
 | .mk k s nm al kids t a, h => by
  rw [ok_eq] at h
  rw [NodeD.form]
  by_cases h1 : k = 1
  ·rw [if_pos (show (NodeD.mk k s nm al kids t a).kind = 1 from h1)] at h
   rw [if_pos h1]
   unfold NodeD.dataOk at h
   rw [Bool.and_eq_true, Bool.and_eq_true] at h
   exact okL_chars t false h.2.1
  ·rw [if_neg (show ¬ (NodeD.mk k s nm al kids t a).kind = 1 from h1)] at h
   rw [if_neg h1]
   by_cases h0 : k = 0
   ·rw [if_pos (show (NodeD.mk k s nm al kids t a).kind = 0 from h0), Bool.and_eq_true, Bool.and_eq_true] at h
    obtain ⟨g1, g2, g3⟩ := h
    unfold NodeD.headOk at g1
    rw [Bool.and_eq_true, Bool.and_eq_true] at g1
    have hq : okL nm.data.toList := okL_name _ g1.2.2
    refine okL_cons1 60 (okL_ascii _ (by decide)) (okL_and hq (okL_and (okL_attrs al [] g2) ?_))
    split
    ·exact okL_ascii _ (by decide)
    ·exact okL_cons1 62 (okL_ascii _ (by decide)) (okL_and (okL_forms kids false g3) (okL_and (a := [60, 47]) (okL_ascii _ (by decide)) (okL_and hq (okL_ascii _ (by decide)))))
   ·rw [if_neg (show ¬ (NodeD.mk k s nm al kids t a).kind = 0 from h0)] at h
    cases h
theorem okL_forms : ∀ (l : List NodeD) (pv : Bool), okBs pv l = true → okL (forms l)
 | [], _, _ => okL_nil
 | k :: r, pv, h => by
  rw [okBs, Bool.and_eq_true, Bool.and_eq_true] at h
  rw [forms]
  exact okL_and (okL_form k h.1.1) (okL_forms r _ h.2)
end
def piP : List UInt8 := [60, 63, 120, 109, 108, 32, 118, 101, 114, 115, 105, 111, 110, 61, 34, 49, 46, 48, 34, 32, 101, 110, 99, 111, 100, 105, 110, 103, 61, 34, 85, 84, 70, 45, 56, 34, 63, 62]
theorem pi_cons : consP (oB piP) 0 = (tokT [] 0, ((38 : Nat) : Int), 0) := by kernel_rfl
theorem nl_cons : consP (oB [10]) 0 = (tokT [10] 0, 1, 0) := by kernel_rfl
theorem good_parts {n : NodeD} (h : n.goodB = true) : n.kind = 0 ∧ n.depth ≤ 100 ∧ n.okB = true := by
 unfold NodeD.goodB at h
 rw [Bool.and_eq_true, Bool.and_eq_true] at h
 exact ⟨of_decide_eq_true h.1, of_decide_eq_true h.2.1, h.2.2⟩
theorem doc_okL {n : NodeD} (h : n.goodB = true) : (chk (oB (docP n))).2 = 0 := by
 have := okL_form n (good_parts h).2.2
 exact okL_and (a := headP) (okL_ascii _ (by decide)) (okL_and this (okL_ascii [10] (by decide)))
theorem doc_toks {n : NodeD} (h : n.goodB = true) : ∃ T, ElT n T ∧ toksP (oB (docP n)) = (tokT [10] 38 :: (T ++ [tokT [10] ((39 + n.form.length : Nat) : Int)]), ((oB (docP n)).size : Int), 0) := by
 obtain ⟨hk, hd, hok⟩ := good_parts h
 obtain ⟨t, ht⟩ := form_head (show ¬ n.kind = 1 by omega)
 have hsz : (oB (docP n)).size = 40 + n.form.length := by
  rw [oBz]
  unfold docP
  rw [List.length_append, List.length_append]
  show 39 + (n.form.length + 1) = _
  omega
 have e1 : docP n = piP ++ (escP false [10] ++ 60 :: (t ++ [10])) := by
  unfold docP
  rw [ht]
  rfl
 have c1 : consP (oB (docP n)) 0 = (tokT [] 0, ((38 : Nat) : Int), 0) := by
  rw [e1, oBa]
  have := consP_left (oB piP) (oB (escP false [10] ++ 60 :: (t ++ [10]))) 0 (by decide) (by rw [pi_cons]) (fun h => absurd h (by decide))
  rw [this, pi_cons]
 have c2 := data_cons piP [10] (t ++ [10]) (by decide)
 rw [← e1, show piP.length = 38 from rfl, show (38 + (escP false [10]).length : Nat) = 39 from rfl] at c2
 obtain ⟨T, hT, hgo⟩ := nform n hk hok headP [10]
 rw [show headP ++ (n.form ++ [10]) = docP n from rfl, show headP.length = 39 from rfl] at hgo
 have c3 : consP (oB (docP n)) (39 + n.form.length) = (tokT [10] ((39 + n.form.length : Nat) : Int), ((40 + n.form.length : Nat) : Int), 0) := by
  have e3 : oB (docP n) = oB (headP ++ n.form) ++ oB [10] := by
   rw [← oBa]
   unfold docP
   rw [List.append_assoc]
  have hs := consP_right (oB (headP ++ n.form)) (oB [10]) 0 (by decide)
  have hl : (oB (headP ++ n.form)).size = 39 + n.form.length := by rw [oBz, List.length_append]; rfl
  rw [← e3, hl, Nat.add_zero, nl_cons] at hs
  obtain ⟨h1, h2⟩ := hs
  obtain ⟨-, h3⟩ := h2 rfl
  have h4 := h3 (.inr (by decide))
  refine Prod.ext ?_ (Prod.ext ?_ ?_)
  ·rw [h4]
   unfold shT tokT
   simp
  ·rw [h1]
   show ((39 + n.form.length : Nat) : Int) + 1 = ((40 + n.form.length : Nat) : Int)
   omega
  ·rw [h1]
 refine ⟨T, hT, ?_⟩
 have h0 : toksP (oB (docP n)) = tgo9 (oB (docP n)) 0 [] := by
  unfold toksP tgo9
  rw [if_neg (by rw [doc_okL h]; decide), oBl]
  have hb : hasP (docP n) ((0 : Nat) : Int) [239, 187, 191] = false := by
   rw [e1]
   exact hasP_no [187, 191] (c := 60) rfl (by decide)
  rw [show hasP (docP n) 0 [239, 187, 191] = false from hb, if_neg (by decide)]
 rw [h0, tgo_drop [] (by omega) c1 (by decide), tgo_keep [] (by omega) (by omega) c2 (.inr (by decide)), hgo, tgo_keep _ (by omega) (by omega) c3 (.inr (by show ([10] : List UInt8) ≠ []; decide)), show 40 + n.form.length = (oB (docP n)).size from hsz.symm, tgo_end]
 simp
theorem nl_text (m : Mac) (h : m.up = []) (a : Int) : addM m (tokT [10] a) = (m, 0) := by
 show (if (3 : Int) = 1 then _ else if (3 : Int) = 2 then _ else textM m (tokT [10] a)) = _
 rw [if_neg (by decide), if_neg (by decide)]
 unfold textM
 rw [if_pos h, if_pos (by show collapse [10] = []; decide)]
theorem parse_doc {n : NodeD} (h : n.goodB = true) : ∃ n', n'.eqB false n = true ∧ parseP (oB (docP n)) = (n', ((oB (docP n)).size : Int), 0) := by
 obtain ⟨T, ⟨n', hn', hr⟩, ht⟩ := doc_toks h
 obtain ⟨hk, hd, hok⟩ := good_parts h
 refine ⟨n', hn', ?_⟩
 obtain ⟨d, hrd⟩ := hr mac0 [tokT [10] ((39 + n.form.length : Nat) : Int)] (fun e => e.2 rfl) (by show 0 + n.depth ≤ 100; omega)
 have hrun : runM mac0 (toksP (oB (docP n))).1 = (⟨addKid n' (flushM mac0).top, mac0.up, [], d⟩, 0, 0) := by
  rw [ht]
  simp only
  rw [runM_cons _ _ _ _ (nl_text mac0 rfl 38), hrd, runM_cons _ _ _ _ (nl_text _ rfl _), runM]
 unfold parseP
 rw [hrun, ht]
 rfl
end
end Go.Proofs.YtppmoeidgefkpaaGreatDoor
