/- Package xmltoken: isNamePart, nameLength, IsQName, lineEnds, spaces, the cursor's name, section, data: what each returns and leaves. Package xmltoken: the cursor's name, section, data: what each returns and leaves. -/
import Derived.Test.YtpphpnkijokffaaGreatDoorTokB
import Derived.Test.YtpphpnkijokffaaGreatDoorIdx
import Derived.Test.YtpphpnkijokffaaGreatDoorBldr
import Derived.Test.YtpphpnkijokffaaGreatDoorEscI
namespace Go.Proofs.YtpphpnkijokffaaGreatDoor
section
open Go.RowKit

/-! ### names -/
set_option maxRecDepth 100000 in
set_option maxHeartbeats 4000000 in
theorem tok_part (r : Int) (b : Bool) (w : World) (hT : HasSpans w) :
    Calls Tryz.prog 38 #[.int .i32 r, .bool b] w fun e w' => e = .returned (.bool (if b then qsB r else qcB r)) ∧ Below w.heap.size w w' := by
  have cS : ∀ wx, HasSpans wx → _ := fun wx h => text_IsNameStart r wx h
  have cC : ∀ wx, HasSpans wx → _ := fun wx h => text_IsNameChar r wx h
  by_cases h : r = 58
  · subst h
    cases b
    all_goals
      go_enter Tryz.func38, Tryz.ntmps38
      go_wp2
      go_ret
      exact ⟨rfl, Below.refl _ _⟩
  · have hb : (r == 58) = false := by simpa using h
    have e1 : qsB r = nameStartB r := by unfold qsB; rw [hb]; rfl
    have e2 : qcB r = nameCharB r := by unfold qcB; rw [hb]; rfl
    rw [e1, e2]
    generalize nameStartB r = x at *
    generalize nameCharB r = y at *
    clear e1 e2 h
    cases b
    · go_enter Tryz.func38, Tryz.ntmps38
      (go_wp2_with fail); (refine (cC _ hT).mono ?_); (rintro e w1 ⟨rfl, b1⟩)
      go_wp2
      go_ret
      exact ⟨rfl, b1⟩
    · go_enter Tryz.func38, Tryz.ntmps38
      (go_wp2_with fail); (refine (cS _ hT).mono ?_); (rintro e w1 ⟨rfl, b1⟩)
      go_wp2
      go_ret
      exact ⟨rfl, b1⟩
theorem part_pos (t : ByteArray) (k : Nat) (hk : k < t.size) (hc : (if k = 0 then qsB (decP t k).1 else qcB (decP t k).1) = true) : 0 < (decP t k).2 := by
  rcases Nat.eq_zero_or_pos (decP t k).2 with h0 | h0
  · rw [(decP_ok t k hk).2.2.2 h0] at hc
    split at hc <;> exact absurd hc (by decide)
  · exact h0
set_option maxRecDepth 100000 in
set_option maxHeartbeats 8000000 in
theorem tok_nameLength (t : ByteArray) (w : World) (hs : t.size ≤ 1000000) (hT : HasTabs w) :
    Calls Tryz.prog 22 #[.string t] w fun e w' => e = .returned (.int .i64 (nlP t)) ∧ Below w.heap.size w w' := by
  go_enter Tryz.func22, Tryz.ntmps22
  go_wp2
  go_loopw [3] (fun q wr => ∃ k f : Nat, k ≤ t.size ∧ q = .int .i64 k ∧ (nlP t = nlF t f k ∧ t.size - k < f) ∧ Below w.heap.size w wr) (fun q _ => t.size - (intOf q).toNat)
  case atStart => exact ⟨0, t.size + 1, Nat.zero_le _, rfl, ⟨rfl, by omega⟩, Below.refl _ _⟩
  case round =>
    obtain ⟨k, f, hk, rfl, ⟨hrel, hf⟩, hbel⟩ := hrel
    have hz := hbel.size
    have hT1 := HasTabs_below hT hbel
    have cD := text_Decode t k wr (by unfold maxLen; omega) hT1.1
    obtain ⟨f, rfl⟩ : ∃ g, f = g + 1 := ⟨f - 1, by omega⟩
    rw [nlF] at hrel
    by_cases hlt : k < t.size
    · have hok := decP_ok t k hlt
      have hpos := part_pos t k hlt
      rw [decI_at t k hlt] at cD
      rw [if_pos hlt] at hrel
      generalize decP t k = d at *
      obtain ⟨r, m⟩ := d
      simp only at cD hok hrel hpos
      have hkz : (k : Int) ≤ 1000000 := by omega
      have cP : ∀ wx, HasSpans wx → _ := fun wx h => tok_part (r : Int) (decide (k = 0)) wx h
      have hm4 : (m : Int) ≤ 4 := by omega
      have hbz : ((k : Int) == 0) = decide (k = 0) := by
        rw [Bool.eq_iff_iff]; simp
      have hif : (if decide (k = 0) = true then qsB (r : Int) else qcB (r : Int)) = (if k = 0 then qsB (r : Int) else qcB (r : Int)) := by
        by_cases h0 : k = 0 <;> simp [h0]
      rw [hif] at cP
      generalize (if k = 0 then qsB (r : Int) else qcB (r : Int)) = c at *
      generalize decide (k = 0) = kb at *
      rcases c with _ | _
      · have HR := Lib.hid (hrel.trans (if_neg (by decide)))
        clear hrel hpos hif
        go_wp2_with fail
        refine cD.mono ?_
        rintro e w1 ⟨rfl, b1⟩
        have t1 := (HasTabs_below hT1 b1).2
        go_wp2_with fail
        refine (cP _ t1).mono ?_
        rintro e w2 ⟨rfl, b2⟩
        go_wp2
        go_ret
        exact ⟨kretI (by rw [HR.out]), hbel.trans ((b1.trans (b2.mono b1.size)).mono hz)⟩
      · have HR := Lib.hid (hrel.trans (if_pos rfl))
        have hp := hpos rfl
        clear hrel hpos hif
        go_wp2_with fail
        refine cD.mono ?_
        rintro e w1 ⟨rfl, b1⟩
        have t1 := (HasTabs_below hT1 b1).2
        go_wp2_with fail
        refine (cP _ t1).mono ?_
        rintro e w2 ⟨rfl, b2⟩
        go_wp2
        go_roundw
        case rel => exact ⟨k + m, f, by omega, by go_num, ⟨HR.out, by omega⟩, hbel.trans ((b1.trans (b2.mono b1.size)).mono hz)⟩
        case measure => simp [intOf]; omega
    · have hd0 : decI t (k : Int) = (0, 0) := by rw [decI, if_pos (Or.inr (by omega))]
      rw [hd0] at cD
      rw [if_neg hlt] at hrel
      have HR := Lib.hid hrel
      have hkz : (k : Int) ≤ 1000000 := by omega
      have cP : ∀ wx, HasSpans wx → _ := fun wx h => tok_part 0 (decide (k = 0)) wx h
      have hbz : ((k : Int) == 0) = decide (k = 0) := by
        rw [Bool.eq_iff_iff]; simp
      rw [show (if decide (k = 0) = true then qsB 0 else qcB 0) = false by split <;> decide] at cP
      generalize decide (k = 0) = kb at *
      clear hrel hd0
      go_wp2_with fail
      refine cD.mono ?_
      rintro e w1 ⟨rfl, b1⟩
      have t1 := (HasTabs_below hT1 b1).2
      go_wp2_with fail
      refine (cP _ t1).mono ?_
      rintro e w2 ⟨rfl, b2⟩
      go_wp2
      go_ret
      exact ⟨kretI (by rw [HR.out]), hbel.trans ((b1.trans (b2.mono b1.size)).mono hz)⟩
set_option maxRecDepth 100000 in
set_option maxHeartbeats 4000000 in
theorem tok_qname (s : ByteArray) (w : World) (hs : s.size ≤ 1000000) (hT : HasTabs w) :
    Calls Tryz.prog 11 #[.string s] w fun e w' => e = .returned (.bool (isQB s)) ∧ Below w.heap.size w w' := by
  have HQ := Lib.hid (isQB_nl s)
  have cN := tok_nameLength s w hs hT
  have hemp : s.toList.isEmpty = decide (s.size = 0) := by
    rw [Lib.toList_data]
    have := Lib.size_eq s
    cases h : s.data.toList with
    | nil => rw [h] at this; simp at this; simp [this]
    | cons a b => rw [h] at this; simp at this; simp [this]
  by_cases h0 : s.size = 0
  · have h1 : s.toList.isEmpty = true := by rw [hemp, decide_eq_true h0]
    have h2 : s.toList = [] := List.isEmpty_iff.1 h1
    have h3 : isQB s = false := by rw [HQ.out, decide_eq_false (by omega)]; rfl
    have H3 := Lib.hid h3
    clear hemp h0 h3
    go_enter Tryz.func11, Tryz.ntmps11
    go_wp2
    go_ret
    exact ⟨kretB H3.out.symm, Below.refl _ _⟩
  · have h1 : s.toList.isEmpty = false := by rw [hemp, decide_eq_false h0]
    have h2 : ¬ s.toList = [] := fun e => by rw [e] at h1; simp at h1
    have h3 : isQB s = decide (nlP s = s.size) := by rw [HQ.out, decide_eq_true (by omega), Bool.true_and]
    have H3 := Lib.hid h3
    clear hemp h0 h3
    generalize nlP s = q at *
    go_enter Tryz.func11, Tryz.ntmps11
    go_wp2_with fail
    refine cN.mono ?_
    rintro e w1 ⟨rfl, b1⟩
    go_wp2
    go_ret
    exact ⟨kretB (by rw [H3.out]; rw [Bool.eq_iff_iff]; simp; omega), b1⟩

/-! ### line ends and spaces -/
/-- What the package reads of the world. -/
def TokT (w : World) : Prop := HasTabs w ∧ EscT w ∧ ∃ m, w.cell? ⟨4, 0, none⟩ = some (.int .i64 m)
theorem TokT_below {w w' : World} (h : TokT w) (hb : Below w.heap.size w w') : TokT w' := by
  obtain ⟨h1, h2, m, hm⟩ := h
  exact ⟨HasTabs_below h1 hb, EscT_below h2 hb, m, (hb.cell (kblock_lt hm)).trans hm⟩
/-- The package's tables lie below the block of a cursor. -/
def TkT (p : Nat) (w : World) : Prop := ∃ w0, TokT w0 ∧ w0.heap.size ≤ p ∧ Below w0.heap.size w0 w
theorem TkT.tabs {p : Nat} {w : World} (h : TkT p w) : TokT w := by
  obtain ⟨w0, h1, _, h3⟩ := h
  exact TokT_below h1 h3
theorem TkT.keep {p : Nat} {w w' : World} (h : TkT p w) (k : Keep p w w') : TkT p w' := by
  obtain ⟨w0, h1, h2, h3⟩ := h
  exact ⟨w0, h1, h2, k.below h3 h2 h3.size⟩
theorem TkT.more {p : Nat} {w w' : World} (h : TkT p w) (b : Below w.heap.size w w') : TkT p w' := h.keep (Keep.of b)
theorem tok_rep (s old new : ByteArray) (w : World) (hs : s.size ≤ 1000000) (h1 : 1 ≤ old.size) (hn : new.size = 1) (hT : TokT w) :
    Calls Tryz.prog 42 #[.string s, .string old, .string new] w fun e w' => e = .returned (.string (ofBytes (Lib.replaceAll s.data.toList old.data.toList new.data.toList))) ∧ Below w.heap.size w w' := by
  obtain ⟨_, _, m, hm⟩ := hT
  exact Tryz.strings_ReplaceAll s old new m w (by omega) hm h1 (by have := Lib.countB_le old h1 s.size s (Nat.le_refl _); rw [hn]; omega)
set_option maxRecDepth 100000 in
set_option maxHeartbeats 4000000 in
theorem tok_lineEnds (s : ByteArray) (w : World) (hs : s.size ≤ 1000000) (hT : TokT w) :
    Calls Tryz.prog 27 #[.string s] w fun e w' => e = .returned (.string (ofBytes (linesP s.data.toList))) ∧ Below w.heap.size w w' := by
  have hsl : s.data.toList.length = s.size := by simp
  have hcl := crlf_len s.data.toList
  have c1 := tok_rep s ⟨#[13, 10]⟩ ⟨#[10]⟩ w hs (by decide) (by decide) hT
  rw [show (⟨#[13, 10]⟩ : ByteArray).data.toList = [13, 10] from rfl, show (⟨#[10]⟩ : ByteArray).data.toList = [10] from rfl, replaceAll_eq _ _ _ (by decide), rAll_crlf _ _ (Nat.le_refl _)] at c1
  have c2 : ∀ wx, TokT wx → _ := fun wx h => tok_rep (ofBytes (crlf s.data.toList)) ⟨#[13]⟩ ⟨#[10]⟩ wx (by rw [ofBytes_size]; omega) (by decide) (by decide) h
  rw [ofBytes_list, show (⟨#[13]⟩ : ByteArray).data.toList = [13] from rfl, show (⟨#[10]⟩ : ByteArray).data.toList = [10] from rfl, replaceAll_eq _ _ _ (by decide), rAll_one, lines_eq] at c2
  generalize ofBytes (crlf s.data.toList) = C at *
  generalize ofBytes (linesP s.data.toList) = L at *
  clear hsl hcl
  go_enter Tryz.func27, Tryz.ntmps27
  go_wp2_with fail
  refine c1.mono ?_
  rintro e w1 ⟨rfl, b1⟩
  have t1 := TokT_below hT b1
  go_wp2_with fail
  refine (c2 _ t1).mono ?_
  rintro e w2 ⟨rfl, b2⟩
  go_wp2
  go_ret
  exact ⟨rfl, b1.trans (b2.mono b1.size)⟩
set_option maxRecDepth 100000 in
set_option maxHeartbeats 4000000 in
theorem tok_spaces (s : ByteArray) (w : World) (hs : s.size ≤ 1000000) (hT : TokT w) :
    Calls Tryz.prog 108 #[.string s] w fun e w' => e = .returned (.string (ofBytes (spMap true (linesP s.data.toList)))) ∧ Below w.heap.size w w' := by
  have hsl : s.data.toList.length = s.size := by simp
  have hll := linesP_len s.data.toList
  have hml : (mapB 10 32 (linesP s.data.toList)).length = (linesP s.data.toList).length := by unfold mapB; rw [List.length_map]
  have c1 := tok_lineEnds s w hs hT
  have c2 : ∀ wx, TokT wx → _ := fun wx h => tok_rep (ofBytes (linesP s.data.toList)) ⟨#[10]⟩ ⟨#[32]⟩ wx (by rw [ofBytes_size]; omega) (by decide) (by decide) h
  rw [ofBytes_list, show (⟨#[10]⟩ : ByteArray).data.toList = [10] from rfl, show (⟨#[32]⟩ : ByteArray).data.toList = [32] from rfl, replaceAll_eq _ _ _ (by decide), rAll_one] at c2
  have c3 : ∀ wx, TokT wx → _ := fun wx h => tok_rep (ofBytes (mapB 10 32 (linesP s.data.toList))) ⟨#[9]⟩ ⟨#[32]⟩ wx (by rw [ofBytes_size]; omega) (by decide) (by decide) h
  rw [ofBytes_list, show (⟨#[9]⟩ : ByteArray).data.toList = [9] from rfl, show (⟨#[32]⟩ : ByteArray).data.toList = [32] from rfl, replaceAll_eq _ _ _ (by decide), rAll_one, spaces_eq] at c3
  generalize ofBytes (spMap true (linesP s.data.toList)) = R at *
  generalize ofBytes (mapB 10 32 (linesP s.data.toList)) = C at *
  generalize ofBytes (linesP s.data.toList) = L at *
  clear hsl hll hml
  go_enter Tryz.func108, Tryz.ntmps108
  go_wp2_with fail
  refine c1.mono ?_
  rintro e w1 ⟨rfl, b1⟩
  have t1 := TokT_below hT b1
  go_wp2_with fail
  refine (c2 _ t1).mono ?_
  rintro e w2 ⟨rfl, b2⟩
  have t2 := TokT_below t1 b2
  go_wp2_with fail
  refine (c3 _ t2).mono ?_
  rintro e w3 ⟨rfl, b3⟩
  go_wp2
  go_ret
  exact ⟨rfl, (b1.trans (b2.mono b1.size)).trans (b3.mono (Nat.le_trans b1.size b2.size))⟩
end
section
open Go.RowKit

theorem Keep.low {p : Nat} {w w1 w2 : World} (h : Keep p w w1) (b : Below w.heap.size w1 w2) : Keep p w w2 :=
  ⟨b.os.trans h.os, b.tape.trans h.tape, b.output.trans h.output, Nat.le_trans h.size b.size, fun k hk hp => (b.block k hk).trans (h.block k hk hp)⟩
theorem Cur.low {w w' : World} {p B : Nat} {s : ByteArray} {k : Int} (h : Cur w p s k) (b : Below B w w') (hp : p < B) : Cur w' p s k := (b.block p hp).trans h
/-- A builder stays while the blocks from B on stay. -/
theorem bld_at_same {T e : TypeId} {B b : Nat} {q : Value} {bs : List Value} {w w' : World} (h : Lib.BuilderAtF T e B b q bs w) (hk : ∀ x, B ≤ x → x < w.heap.size → w'.heap[x]? = w.heap[x]?) : Lib.BuilderAtF T e B b q bs w' := by
  obtain ⟨hB, v, hh, hown, hne⟩ := h
  refine ⟨hB, v, (hk b hB (Array.getElem?_eq_some_iff.1 hh).1).trans hh, ⟨hown.1, ?_⟩, hne⟩
  rcases hown.2 with hn | ⟨g, cap, cur, fz, hv, hbg, hg, rest⟩
  · exact .inl hn
  · exact .inr ⟨g, cap, cur, fz, hv, hbg, (hk g hbg (Array.getElem?_eq_some_iff.1 hg).1).trans hg, rest⟩
theorem Bld.same {B b : Nat} {l : List UInt8} {w w' : World} (h : Bld B b l w) (hk : ∀ x, B ≤ x → x < w.heap.size → w'.heap[x]? = w.heap[x]?) : Bld B b l w' := h.elim (fun x => .inl (bld_at_same x hk)) (fun x => .inr (bld_at_same x hk))
theorem Bld.set {B b p : Nat} {l : List UInt8} {w : World} (h : Bld B b l w) (hp : p < B) (o : Nat) (u : Value) : Bld B b l (w.setCell ⟨p, o, none⟩ u) :=
  h.same fun x hx _ => Below.heap_setCell w ⟨p, o, none⟩ u x (fun e => by have : x = p := e; omega)
set_option maxRecDepth 100000 in
set_option maxHeartbeats 8000000 in
theorem cur_name (p : Nat) (s : ByteArray) (k : Nat) (w : World) (hC : Cur w p s k) (hk : k ≤ s.size) (hs : s.size ≤ 1000000) (hT : TkT p w) :
    Calls Tryz.prog 82 #[.pointer (some ⟨p, 0, none⟩)] w fun e w' => e = .returned (.string (ofBytes ((s.data.toList.drop k).take (nmP s k - k)))) ∧ Cur w' p s (nmP s k : Nat) ∧ Keep p w w' := by
  have hsl : s.data.toList.length = s.size := by simp
  have hn := nmP_rest s k hk
  have hle := nmP_le s k hk
  have cR : ∀ wx, Cur wx p s k → _ := fun wx h => cur_rest p s k wx h hk
  have hRl : (ofBytes (s.data.toList.drop k)).data.toList = s.data.toList.drop k := ofBytes_list _
  have hRz : (ofBytes (s.data.toList.drop k)).size = s.size - k := by rw [ofBytes_size, List.length_drop, hsl]
  have cN : ∀ wx, HasTabs wx → _ := fun wx h => tok_nameLength (ofBytes (s.data.toList.drop k)) wx (by omega) h
  have hnl := nlP_le (ofBytes (s.data.toList.drop k))
  have hst : ∀ wx, _ := fun wx => slice_to (ofBytes (s.data.toList.drop k)) (nlP (ofBytes (s.data.toList.drop k)) : Nat) (by omega) (by omega) wx
  rw [Int.toNat_natCast, kext, hRl, List.drop_zero, Nat.sub_zero] at hst
  rw [show nmP s k - k = nlP (ofBytes (s.data.toList.drop k)) by omega, hn]
  have hNz : (ofBytes ((s.data.toList.drop k).take (nlP (ofBytes (s.data.toList.drop k))))).size = nlP (ofBytes (s.data.toList.drop k)) := by
    rw [ofBytes_size, List.length_take, List.length_drop]; omega
  generalize ofBytes ((s.data.toList.drop k).take (nlP (ofBytes (s.data.toList.drop k)))) = NM at *
  generalize nlP (ofBytes (s.data.toList.drop k)) = n at *
  generalize ofBytes (s.data.toList.drop k) = R at *
  have hk6 : (k : Int) ≤ 1000000 := by omega
  have hn6 : (n : Int) ≤ 1000000 := by omega
  have HC := Lib.hid hC
  have hNz2 : (NM.size : Int) = (n : Int) := by omega
  have HNZ := Lib.hid hNz2
  clear hn hle hRl hRz hnl hNz hsl hC hNz2
  go_enter Tryz.func82, Tryz.ntmps82
  go_wp2_with fail
  refine (cR _ HC.out).mono ?_
  rintro e w1 ⟨rfl, b1⟩
  have C1 := Lib.hid (Cur.keep HC.out b1)
  go_wp2_with fail
  refine (cR _ C1.out).mono ?_
  rintro e w2 ⟨rfl, b2⟩
  have C2 := Lib.hid (Cur.keep C1.out b2)
  have t2 := ((hT.more b1).more b2).tabs.1
  go_wp2_with fail
  refine (cN _ t2).mono ?_
  rintro e w3 ⟨rfl, b3⟩
  have C3 := Lib.hid (Cur.keep C2.out b3)
  have K3 := Lib.hid (((Keep.of (p := p) b1).more b2).more b3)
  have q1 := Cur.c1 C3.out
  have f1 := Cur.f1 C3.out
  have C4 := Lib.hid (Cur.set C3.out ((k : Int) + (n : Int)))
  have K4 := Lib.hid (Keep.set K3.out 1 (.int .i64 ((k : Int) + (n : Int))))
  have hz9 : (NM.size : Int) = n := HNZ.out
  clear b1 b2 b3 t2 cR cN
  go_wp2
  go_ret
  exact ⟨rfl, by rw [show ((k + n : Nat) : Int) = (k : Int) + (n : Int) by omega]; exact C4.out, K4.out⟩
/-- A construct that ends at the next of some bytes: where it does not, the error is at its beginning. -/
theorem skipP_def (l : List UInt8) (i n : Nat) (t : List UInt8) : skipP l i n t = if nextP l (i + n) t < 0 then ((i : Int), 8) else (nextP l (i + n) t + (t.length : Int), 0) := rfl
theorem nextP_def (l : List UInt8) (i : Nat) (t : List UInt8) : nextP l i t = if Lib.index (l.drop i) t = -1 then -1 else (i : Int) + Lib.index (l.drop i) t := rfl
theorem retSec {a b : ByteArray} {c d : Int} (h1 : a = b) (h2 : c = d) : Ending.returned (.tuple #[.string a, .int .i64 c]) = .returned (.tuple #[.string b, .int .i64 d]) := by rw [h1, h2]
set_option maxRecDepth 100000 in
set_option maxHeartbeats 8000000 in
theorem cur_section (p : Nat) (s o t : ByteArray) (k : Nat) (w : World) (hC : Cur w p s k) (hk : k + o.size ≤ s.size) (hs : s.size ≤ 1000000) (ho : o.size ≤ 100) (ht : t.size ≤ 100) (ht0 : 0 < t.size) (hT : TkT p w) :
    Calls Tryz.prog 26 #[.pointer (some ⟨p, 0, none⟩), .string o, .string t] w fun e w' => (∃ x, e = .returned (.tuple #[.string x, .int .i64 (skipP s.data.toList k o.size t.data.toList).2]) ∧ ((skipP s.data.toList k o.size t.data.toList).2 = 0 → x = ofBytes ((s.data.toList.drop (k + o.size)).take ((skipP s.data.toList k o.size t.data.toList).1.toNat - t.size - (k + o.size))))) ∧ Cur w' p s (skipP s.data.toList k o.size t.data.toList).1 ∧ Keep p w w' := by
  have hsl : s.data.toList.length = s.size := by simp
  have htl : t.data.toList.length = t.size := by simp
  have hsk := skipP_def s.data.toList k o.size t.data.toList
  rw [nextP_def, htl] at hsk
  have cR : ∀ wx, Cur wx p s k → _ := fun wx h => cur_rest p s k wx h (by omega)
  have hRl : (ofBytes (s.data.toList.drop k)).data.toList = s.data.toList.drop k := ofBytes_list _
  have hRz : (ofBytes (s.data.toList.drop k)).size = s.size - k := by rw [ofBytes_size, List.length_drop, hsl]
  have hsf : ∀ wx, _ := fun wx => slice_from (ofBytes (s.data.toList.drop k)) (o.size : Nat) (by omega) (by omega) wx
  rw [Int.toNat_natCast, kext, hRl, List.take_of_length_le (by rw [List.length_drop, List.length_drop, hRz]; omega), List.drop_drop] at hsf
  have hQl : (ofBytes (s.data.toList.drop (k + o.size))).data.toList = s.data.toList.drop (k + o.size) := ofBytes_list _
  have hQz : (ofBytes (s.data.toList.drop (k + o.size))).size = s.size - (k + o.size) := by rw [ofBytes_size, List.length_drop, hsl]
  obtain ⟨m, hm⟩ := hT.tabs.2.2
  have hmb := kblock_lt hm
  have cC : ∀ wx : World, wx.cell? ⟨4, 0, none⟩ = some (Value.int .i64 m) → _ := fun wx h => Tryz.strings_Cut (ofBytes (s.data.toList.drop (k + o.size))) t m wx (by omega) h
  rw [hQl] at cC
  have hroom := index_room (s.data.toList.drop (k + o.size)) t.data.toList
  rw [htl, List.length_drop, hsl] at hroom
  have hk6 : (k : Int) ≤ 1000000 := by omega
  have ho6 : (o.size : Int) ≤ 100 := by omega
  have ht6 : (t.size : Int) ≤ 100 := by omega
  have HC := Lib.hid hC
  by_cases hi : Lib.index (s.data.toList.drop (k + o.size)) t.data.toList = -1
  · rw [if_pos hi, if_pos (by decide)] at hsk
    have hcut : Lib.cut (s.data.toList.drop (k + o.size)) t.data.toList = (s.data.toList.drop (k + o.size), [], false) := by
      unfold Lib.cut; rw [if_neg (by omega)]
    rw [hcut] at cC
    rw [hsk]
    simp only at cC
    generalize (⟨(s.data.toList.drop (k + o.size)).toArray⟩ : ByteArray) = Q2 at *
    generalize ofBytes (s.data.toList.drop (k + o.size)) = Q at *
    generalize ofBytes (s.data.toList.drop k) = R at *
    clear hi hroom hsk hcut hsl htl hQl hQz hRl hRz hC
    go_enter Tryz.func26, Tryz.ntmps26
    go_wp2_with fail
    refine (cR _ HC.out).mono ?_
    rintro e w1 ⟨rfl, b1⟩
    have C1 := Lib.hid (Cur.keep HC.out b1)
    have hm1 := (b1.cell hmb).trans hm
    go_wp2_with fail
    refine (cC _ hm1).mono ?_
    rintro e w2 ⟨rfl, n, rfl⟩
    go_wp2
    exact bodyPost_ret (v := .tuple #[.string ⟨#[]⟩, .int .i64 8]) (by simp [results, Tryz.results26, go_sem]) rfl ⟨⟨_, rfl, fun h => absurd h (by decide)⟩, C1.out, (Keep.of b1).drewN n⟩
  · have hge := Lib.index_ge (s.data.toList.drop (k + o.size)) t.data.toList
    obtain ⟨i, hiv⟩ := Int.eq_ofNat_of_zero_le (show 0 ≤ Lib.index (s.data.toList.drop (k + o.size)) t.data.toList by omega)
    have hr := hroom hi
    rw [if_neg hi, if_neg (by omega)] at hsk
    have hcut : Lib.cut (s.data.toList.drop (k + o.size)) t.data.toList = ((s.data.toList.drop (k + o.size)).take i, (s.data.toList.drop (k + o.size)).drop (i + t.size), true) := by
      unfold Lib.cut; rw [if_pos (by omega), hiv, Int.toNat_natCast, htl]
    rw [hcut] at cC
    rw [hiv] at hsk hr
    rw [hsk]
    simp only at cC
    have hx : (((k + o.size : Nat) : Int) + (i : Int) + (t.size : Int)).toNat - t.size - (k + o.size) = i := by omega
    simp only [hx]
    have hIz : (ofBytes ((s.data.toList.drop (k + o.size)).take i)).size = i := by rw [ofBytes_size, List.length_take, List.length_drop, hsl]; omega
    have hI6 : (i : Int) ≤ 1000000 := by omega
    have hpl : ((k + o.size : Nat) : Int) + (i : Int) + (t.size : Int) = (k : Int) + ((o.size : Int) + (i : Int) + (t.size : Int)) := by omega
    rw [hpl]
    change ∀ wx : World, wx.cell? _ = _ → Calls _ _ _ wx fun e w' => e = .returned (.tuple #[.string (ofBytes ((s.data.toList.drop (k + o.size)).take i)), _, _]) ∧ _ at cC
    generalize ofBytes ((s.data.toList.drop (k + o.size)).take i) = I at *
    generalize (⟨((s.data.toList.drop (k + o.size)).drop (i + t.size)).toArray⟩ : ByteArray) = Q2 at *
    generalize ofBytes (s.data.toList.drop (k + o.size)) = Q at *
    generalize ofBytes (s.data.toList.drop k) = R at *
    have hIz2 : (I.size : Int) = (i : Int) := by omega
    clear hi hroom hsk hcut hsl htl hQl hQz hRl hRz hC hge hiv hr hx hpl hIz
    go_enter Tryz.func26, Tryz.ntmps26
    go_wp2_with fail
    refine (cR _ HC.out).mono ?_
    rintro e w1 ⟨rfl, b1⟩
    have C1 := Lib.hid (Cur.keep HC.out b1)
    have hm1 := (b1.cell hmb).trans hm
    go_wp2_with fail
    refine (cC _ hm1).mono ?_
    rintro e w2 ⟨rfl, n, rfl⟩
    have C2 : Hid (Cur (w1.drewN n) p s (k : Int)) := Lib.hid C1.out
    have K2 := Lib.hid ((Keep.of (p := p) b1).drewN n)
    have q1 := Cur.c1 C2.out
    have f1 := Cur.f1 C2.out
    have C4 := Lib.hid (Cur.set C2.out ((k : Int) + ((o.size : Int) + (i : Int) + (t.size : Int))))
    have K4 := Lib.hid (Keep.set K2.out 1 (.int .i64 ((k : Int) + ((o.size : Int) + (i : Int) + (t.size : Int)))))
    generalize w1.drewN n = w2 at *
    clear b1 hm1 cR cC
    go_wp2
    exact bodyPost_ret (v := .tuple #[.string I, .int .i64 0]) (by simp [results, Tryz.results26, go_sem]) rfl ⟨⟨_, rfl, fun _ => rfl⟩, C4.out, K4.out⟩
end
end Go.Proofs.YtpphpnkijokffaaGreatDoor
