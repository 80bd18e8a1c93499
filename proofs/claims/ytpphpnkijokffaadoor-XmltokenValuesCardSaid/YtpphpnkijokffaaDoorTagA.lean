/- Package xmltoken: the tag reader's wrong, expect, expectName, value, attribute: what each returns and leaves. Package xmltoken: the tag reader's value and attribute: what each returns and leaves. Package xmltoken: the tag reader's attribute: what it returns and leaves. Package xmltoken: the tag reader's attributes: what it returns and leaves. -/
import Derived.Test.YtpphpnkijokffaaDoorTokH
import Derived.Maps.Own
import Derived.Maps.Views
import Derived.OwnWalk
namespace Go.Proofs.YtpphpnkijokffaaDoor
section
open Go.RowKit

/-- A block of the call's own, by its cells. -/
def Blk (w : World) (b : Nat) (cs : Array Value) (T : TypeId) : Prop := w.heap[b]? = some (.cells cs T (0, 0))
theorem Blk.lt {w : World} {b : Nat} {cs : Array Value} {T : TypeId} (h : Blk w b cs T) : b < w.heap.size := (Array.getElem?_eq_some_iff.1 h).1
theorem Blk.cell {w : World} {b : Nat} {cs : Array Value} {T : TypeId} (h : Blk w b cs T) (o : Nat) : w.cell? ⟨b, o, none⟩ = cs[o]? := cell_of_row w b o _ _ _ h
theorem Blk.fr {w : World} {b : Nat} {cs : Array Value} {T : TypeId} (h : Blk w b cs T) (o : Nat) : w.frozen? ⟨b, o, none⟩ = false := frozen_of_row w b o _ _ h
theorem Blk.keep {w w' : World} {b p : Nat} {cs : Array Value} {T : TypeId} (h : Blk w b cs T) (k : Keep p w w') (hb : b ≠ p) : Blk w' b cs T := (k.block b h.lt hb).trans h
theorem Blk.more {w w' : World} {b : Nat} {cs : Array Value} {T : TypeId} (h : Blk w b cs T) (k : Below w.heap.size w w') : Blk w' b cs T := (k.block b h.lt).trans h
theorem Blk.own {w : World} {b : Nat} {cs : Array Value} {T : TypeId} (h : Blk w b cs T) {q : Addr} (hq : q.block ≠ b) (u : Value) : Blk (w.setCell q u) b cs T := (Below.heap_setCell w q u b (fun e => hq e.symm)).trans h
theorem Blk.new (w : World) (cs : Array Value) (T : TypeId) : Blk (w.alloc (.cells cs T)) w.heap.size cs T := heap_alloc_new w _
/-- The value of a tag reader. -/
def rdrV (p : Nat) (i : Int) : Value := .agg #[.pointer (some ⟨p, 0, none⟩), .int .i64 i]
def rdrC (p : Nat) (i : Int) : Array Value := #[.pointer (some ⟨p, 0, none⟩), .int .i64 i]
/-- Within a method of the tag reader that was entered in w: the cursor at a place, the receiver's block, all else as it was. -/
def TR (w wx : World) (p : Nat) (s : ByteArray) (i k : Int) : Prop := Cur wx p s k ∧ Keep p w wx ∧ Blk wx w.heap.size (rdrC p i) 65 ∧ p < w.heap.size
theorem TR.cur {w wx : World} {p : Nat} {s : ByteArray} {i k : Int} (h : TR w wx p s i k) : Cur wx p s k := h.1
theorem TR.keep {w wx : World} {p : Nat} {s : ByteArray} {i k : Int} (h : TR w wx p s i k) : Keep p w wx := h.2.1
theorem TR.g0 {w wx : World} {p : Nat} {s : ByteArray} {i k : Int} (h : TR w wx p s i k) : wx.cell? ⟨w.heap.size, 0, none⟩ = some (.pointer (some ⟨p, 0, none⟩)) := (h.2.2.1.cell 0).trans rfl
theorem TR.g1 {w wx : World} {p : Nat} {s : ByteArray} {i k : Int} (h : TR w wx p s i k) : wx.cell? ⟨w.heap.size, 1, none⟩ = some (.int .i64 i) := (h.2.2.1.cell 1).trans rfl
theorem TR.new {w : World} {p : Nat} {s : ByteArray} {k : Int} (h : Cur w p s k) (i : Int) : TR w (w.alloc (.cells #[.pointer (some ⟨p, 0, none⟩), .int .i64 i] 65)) p s i k :=
  ⟨h.keep ((Below.refl _ _).alloc (Nat.le_refl _) _), (Keep.refl _ _).alloc _, Blk.new _ _ _, h.lt⟩
theorem TR.more {w wx wy : World} {p : Nat} {s : ByteArray} {i k : Int} (h : TR w wx p s i k) (b : Below wx.heap.size wx wy) : TR w wy p s i k := ⟨h.1.keep b, h.2.1.more b, h.2.2.1.more b, h.2.2.2⟩
theorem TR.alloc {w wx : World} {p : Nat} {s : ByteArray} {i k : Int} (h : TR w wx p s i k) (o : Obj) : TR w (wx.alloc o) p s i k := h.more ((Below.refl _ _).alloc (Nat.le_refl _) _)
theorem TR.step {w wx wy : World} {p : Nat} {s : ByteArray} {i k k' : Int} (h : TR w wx p s i k) (c : Cur wy p s k') (q : Keep p wx wy) : TR w wy p s i k' := ⟨c, h.2.1.trans q, h.2.2.1.keep q (by have := h.2.2.2; omega), h.2.2.2⟩
theorem TR.set {w wx : World} {p : Nat} {s : ByteArray} {i k : Int} (h : TR w wx p s i k) (k' : Int) : TR w (wx.setCell ⟨p, 1, none⟩ (.int .i64 k')) p s i k' := h.step (h.1.set k') ((Keep.refl _ _).set 1 _)
/-- A store into a block that the call made behind the receiver's. -/
theorem TR.own {w wx : World} {p : Nat} {s : ByteArray} {i k : Int} (h : TR w wx p s i k) {q : Addr} (hq : w.heap.size < q.block) (u : Value) : TR w (wx.setCell q u) p s i k :=
  ⟨h.1.own (by have := h.2.2.2; omega) u, h.2.1.own (by omega) u, h.2.2.1.own (by omega) u, h.2.2.2⟩
set_option maxRecDepth 100000 in
set_option maxHeartbeats 8000000 in
theorem tag_wrong (p : Nat) (s : ByteArray) (i k : Int) (w : World) (hC : Cur w p s k) (hk : k ≤ (s.size : Int)) :
    Calls Tryd.prog 72 #[rdrV p i] w fun e w' => e = .returned (.int .i64 (misP s.size i k).2) ∧ Cur w' p s (misP s.size i k).1 ∧ Keep p w w' := by
  have D0 := Lib.hid (TR.new hC i)
  have cE : ∀ wx, Cur wx p s k → _ := fun wx h => cur_ended p s k wx h
  unfold rdrV
  by_cases h : k = (s.size : Int)
  · have hm : misP s.size i k = (i, 8) := if_pos (by omega)
    rw [show (k == (s.size : Int)) = true by simpa using h] at cE
    rw [hm]
    clear hm hC
    go_enter Tryd.func72, Tryd.ntmps72
    go_wp2_with fail
    refine (cE _ D0.out.1).mono ?_
    rintro e w1 ⟨rfl, b1⟩
    have D1 := Lib.hid (D0.out.more b1)
    have g0 := D1.out.g0
    have g1 := D1.out.g1
    have q1 := D1.out.1.c1
    have f1 := D1.out.1.f1
    have D2 := Lib.hid (D1.out.set i)
    clear b1
    go_wp2
    go_ret
    exact ⟨rfl, D2.out.1, D2.out.2.1⟩
  · have hm : misP s.size i k = (k, 7) := if_neg (by omega)
    rw [show (k == (s.size : Int)) = false by simpa using h] at cE
    rw [hm]
    clear hm hC
    go_enter Tryd.func72, Tryd.ntmps72
    go_wp2_with fail
    refine (cE _ D0.out.1).mono ?_
    rintro e w1 ⟨rfl, b1⟩
    have D1 := Lib.hid (D0.out.more b1)
    clear b1
    go_wp2
    go_ret
    exact ⟨rfl, D1.out.1, D1.out.2.1⟩
/-- What expect gives: the place, the error. -/
def expP (s : ByteArray) (i : Int) (k : Nat) (t : List UInt8) : Int × Int := if hasP s.data.toList (k : Int) t then ((k : Int) + (t.length : Int), 0) else misP s.size i k
set_option maxRecDepth 100000 in
set_option maxHeartbeats 8000000 in
theorem tag_expect (p : Nat) (s t : ByteArray) (i : Int) (k : Nat) (w : World) (hC : Cur w p s k) (hk : k ≤ s.size) (hs : s.size ≤ 1000000) (ht : t.size ≤ 1000) :
    Calls Tryd.prog 57 #[rdrV p i, .string t] w fun e w' => e = .returned (.int .i64 (expP s i k t.data.toList).2) ∧ Cur w' p s (expP s i k t.data.toList).1 ∧ Keep p w w' := by
  have htl : t.data.toList.length = t.size := by simp
  have D0 := Lib.hid (TR.new hC i)
  have cW : ∀ wx, Cur wx p s k → _ := fun wx h => tag_wrong p s i (k : Int) wx h (by omega)
  unfold rdrV at *
  unfold expP
  rw [htl]
  rcases hb : hasP s.data.toList (k : Int) t.data.toList with _ | _
  · have cN : ∀ wx, Cur wx p s k → _ := fun wx h => cur_skip_no p s t k wx h hk hb
    rw [if_neg (by decide)]
    clear htl hb hC
    go_enter Tryd.func57, Tryd.ntmps57
    go_wp2_with fail
    refine (cN _ D0.out.1).mono ?_
    rintro e w1 ⟨rfl, b1⟩
    have D1 := Lib.hid (D0.out.more b1)
    have g0 := D1.out.g0
    have g1 := D1.out.g1
    clear b1
    go_wp2_with fail
    refine (cW _ D1.out.1).mono ?_
    rintro e w2 ⟨rfl, c2, k2⟩
    have D2 := Lib.hid (D1.out.step c2 k2)
    clear c2 k2 g0 g1
    go_wp2
    go_ret
    exact ⟨rfl, D2.out.1, D2.out.2.1⟩
  · have cY : ∀ wx, Cur wx p s k → _ := fun wx h => cur_skip_yes p s t k wx h hk hs (by omega) hb
    rw [if_pos rfl]
    clear htl hb hC cW
    go_enter Tryd.func57, Tryd.ntmps57
    go_wp2_with fail
    refine (cY _ D0.out.1).mono ?_
    rintro e w1 ⟨rfl, c1, k1⟩
    have D1 := Lib.hid (D0.out.step c1 k1)
    clear c1 k1
    go_wp2
    go_ret
    exact ⟨rfl, D1.out.1, D1.out.2.1⟩
/-- The bytes of a string, empty or not, as the walk asks for them. -/
theorem empty_no {l : List UInt8} (h : l ≠ []) : (ofBytes l).toList.isEmpty = false ∧ ¬ (ofBytes l).toList = [] := by
  rw [ByteArray.toList_eq, ofBytes_list]
  cases l with
  | nil => exact absurd rfl h
  | cons a b => exact ⟨rfl, by simp⟩
set_option maxRecDepth 100000 in
set_option maxHeartbeats 8000000 in
theorem tag_name_no (p : Nat) (s : ByteArray) (i : Int) (k : Nat) (w : World) (hC : Cur w p s k) (hk : k ≤ s.size) (hs : s.size ≤ 1000000) (hT : TkT p w) (hn : nmP s k = k) :
    Calls Tryd.prog 55 #[rdrV p i] w fun e w' => e = .returned (.tuple #[.string ⟨#[]⟩, .int .i64 (misP s.size i k).2]) ∧ Cur w' p s (misP s.size i k).1 ∧ Keep p w w' := by
  have D0 := Lib.hid (TR.new hC i)
  have cN : ∀ wx, Cur wx p s k → TkT p wx → _ := fun wx h t => cur_name p s k wx h hk hs t
  have cW : ∀ wx, Cur wx p s k → _ := fun wx h => tag_wrong p s i (k : Int) wx h (by omega)
  rw [hn, Nat.sub_self, List.take_zero, show ofBytes [] = (⟨#[]⟩ : ByteArray) from rfl] at cN
  have t0 := hT.keep D0.out.2.1
  unfold rdrV at *
  clear hn hC
  go_enter Tryd.func55, Tryd.ntmps55
  go_wp2_with fail
  refine (cN _ D0.out.1 t0).mono ?_
  rintro e w1 ⟨rfl, c1, k1⟩
  have D1 := Lib.hid (D0.out.step c1 k1)
  have g0 := D1.out.g0
  have g1 := D1.out.g1
  clear c1 k1 t0
  go_wp2_with fail
  refine (cW _ D1.out.1).mono ?_
  rintro e w2 ⟨rfl, c2, k2⟩
  have D2 := Lib.hid (D1.out.step c2 k2)
  clear c2 k2 g0 g1
  go_wp2
  go_ret2
  exact ⟨rfl, D2.out.1, D2.out.2.1⟩
set_option maxRecDepth 100000 in
set_option maxHeartbeats 8000000 in
theorem tag_name_yes (p : Nat) (s : ByteArray) (i : Int) (k : Nat) (w : World) (hC : Cur w p s k) (hk : k ≤ s.size) (hs : s.size ≤ 1000000) (hT : TkT p w) (hn : nmP s k ≠ k) :
    Calls Tryd.prog 55 #[rdrV p i] w fun e w' => e = .returned (.tuple #[.string (ofBytes ((s.data.toList.drop k).take (nmP s k - k))), .int .i64 0]) ∧ Cur w' p s (nmP s k : Nat) ∧ Keep p w w' := by
  have hsl : s.data.toList.length = s.size := by simp
  have hle := nmP_le s k hk
  have D0 := Lib.hid (TR.new hC i)
  have cN : ∀ wx, Cur wx p s k → TkT p wx → _ := fun wx h t => cur_name p s k wx h hk hs t
  have t0 := hT.keep D0.out.2.1
  obtain ⟨e1, e2⟩ := empty_no (l := (s.data.toList.drop k).take (nmP s k - k)) (fun e => by
    have := congrArg List.length e
    rw [List.length_take, List.length_drop, List.length_nil] at this
    omega)
  generalize ofBytes ((s.data.toList.drop k).take (nmP s k - k)) = NM at *
  generalize nmP s k = n at *
  unfold rdrV at *
  clear hn hC hsl hle
  go_enter Tryd.func55, Tryd.ntmps55
  go_wp2_with fail
  refine (cN _ D0.out.1 t0).mono ?_
  rintro e w1 ⟨rfl, c1, k1⟩
  have D1 := Lib.hid (D0.out.step c1 k1)
  clear c1 k1 t0
  go_wp2
  go_ret2
  exact ⟨rfl, D1.out.1, D1.out.2.1⟩
end
section
open Go.RowKit

theorem attr2_no (s : ByteArray) (i : Nat) (N : List UInt8) (k : Nat) (h1 : hasP s.data.toList (k : Int) [34] = false) (h2 : hasP s.data.toList (k : Int) [39] = false) : attr2 s i N k = ((N, []), misP s.size i (k : Int)) := by
  unfold attr2; rw [h1, h2]; rfl
theorem attr2_dq (s : ByteArray) (i : Nat) (N : List UInt8) (k : Nat) (h1 : hasP s.data.toList (k : Int) [34] = true) : attr2 s i N k = attr4 s i N (stopAt [60, 34] s.data.toList (k + 1)) (contP s.data.toList (k + 1) (stopAt [60, 34] s.data.toList (k + 1)) true) := by
  unfold attr2 attr3; rw [if_pos h1, quo_stop]
theorem attr2_sq (s : ByteArray) (i : Nat) (N : List UInt8) (k : Nat) (h1 : hasP s.data.toList (k : Int) [34] = false) (h2 : hasP s.data.toList (k : Int) [39] = true) : attr2 s i N k = attr4 s i N (stopAt [60, 39] s.data.toList (k + 1)) (contP s.data.toList (k + 1) (stopAt [60, 39] s.data.toList (k + 1)) true) := by
  unfold attr2 attr3; rw [h1, if_neg (by decide), if_pos h2, quo_stop]
/-- Behind a value that has been read: the closing quote, the end, or a less-than sign. -/
theorem quo_exp (s : ByteArray) (i : Nat) (N : List UInt8) (k : Nat) (q : UInt8) (hq : q ≠ 60) (hk : k + 1 ≤ s.size) : ∀ V : List UInt8, attr4 s i N (stopAt [60, q] s.data.toList (k + 1)) (V, ((stopAt [60, q] s.data.toList (k + 1) : Nat) : Int), 0) = ((N, if (expP s (i : Int) (stopAt [60, q] s.data.toList (k + 1)) [q]).2 = 0 then V else []), expP s (i : Int) (stopAt [60, q] s.data.toList (k + 1)) [q]) := by
  intro V
  have hsl : s.data.toList.length = s.size := by simp
  have hle := stopAt_le [60, q] s.data.toList (k + 1) (by omega)
  obtain ⟨_, hsp⟩ := stopAt_spec [60, q] s.data.toList _ (k + 1) (Nat.le_refl _)
  generalize stopAt [60, q] s.data.toList (k + 1) = e at *
  unfold expP
  by_cases he : e = s.size
  · have hno : hasP s.data.toList (e : Int) [q] = false := by rw [← pre_has, List.drop_eq_nil_of_le (by omega)]; rfl
    rw [attr4_eof he, hno, if_neg (show ¬ (false = true) by decide), show misP s.size (i : Int) (e : Int) = ((i : Int), 8) from if_pos (by omega)]
    simp
  · have hel : e < s.data.toList.length := by omega
    obtain ⟨y, hy⟩ : ∃ y, s.data.toList[e]'hel = y := ⟨_, rfl⟩
    have hyo : s.data.toList[e]? = some y := by rw [List.getElem?_eq_getElem hel, hy]
    have hin := hsp hel
    rw [hy] at hin
    by_cases h60 : y = 60
    · subst h60
      have hno : hasP s.data.toList (e : Int) [q] = false := hasP_no [] hyo (fun e => hq e.symm)
      rw [attr4_lt (by omega) hel hy, hno, if_neg (show ¬ (false = true) by decide), show misP s.size (i : Int) (e : Int) = ((e : Int), 7) from if_neg (by omega)]
      simp
    · have hyq : y = q := by
        simp at hin
        rcases hin with h | h
        · exact absurd h h60
        · exact h
      subst hyq
      have hyes : hasP s.data.toList (e : Int) [y] = true := hasP_yes1 hyo
      rw [attr4_ok (by omega) hel hy h60, hyes, if_pos rfl]
      simp
theorem two_quotes {l : List UInt8} {k : Nat} (h : hasP l (k : Int) [34] = true) : hasP l (k : Int) [39] = false := by
  obtain ⟨hm, he⟩ := hasP_one l k 34 h
  exact hasP_no [] (c := 34) (by rw [List.getElem?_eq_getElem hm, he]) (by decide)
set_option maxRecDepth 100000 in
set_option maxHeartbeats 16000000 in
theorem tag_value (p : Nat) (s : ByteArray) (i k : Nat) (N : List UInt8) (w : World) (hC : Cur w p s k) (hk : k ≤ s.size) (hs : s.size ≤ 1000000) (hT : TkT p w) :
    Calls Tryd.prog 83 #[rdrV p i] w fun e w' => (∃ V, e = .returned (.tuple #[.string V, .int .i64 (attr2 s i N k).2.2]) ∧ ((attr2 s i N k).2.2 = 0 → V = ofBytes (attr2 s i N k).1.2)) ∧ Cur w' p s (attr2 s i N k).2.1 ∧ Keep p w w' := by
  have hsl : s.data.toList.length = s.size := by simp
  have D0 := Lib.hid (TR.new hC i)
  have cS : ∀ wx, Cur wx p s k → _ := fun wx h => cur_starts p s ⟨#[39]⟩ k _ wx h hk rfl
  rw [show (⟨#[39]⟩ : ByteArray).data.toList = [39] from rfl] at cS
  rcases hq : hasP s.data.toList (k : Int) [34] with _ | _
  · rcases hr : hasP s.data.toList (k : Int) [39] with _ | _
    · have hav := attr2_no s i N k hq hr
      rw [hav]
      rw [hr] at cS
      have cX : ∀ wx, Cur wx p s k → _ := fun wx h => tag_expect p s ⟨#[34]⟩ i k wx h hk hs (by decide)
      rw [show (⟨#[34]⟩ : ByteArray).data.toList = [34] from rfl, show expP s i k [34] = misP s.size i k by unfold expP; rw [hq]; rfl] at cX
      have hmn := misP_ne s.size i (k : Int)
      generalize misP s.size i (k : Int) = mp at *
      obtain ⟨y1, y2⟩ := mp
      simp only at cX hmn ⊢
      have herb : (y2 != 0) = true := by simpa using hmn
      unfold rdrV at *
      clear hq hr hav hC hsl
      go_enter Tryd.func83, Tryd.ntmps83
      go_wp2_with fail
      refine (cS _ D0.out.1).mono ?_
      rintro e' w1 ⟨rfl, b1⟩
      have D1 := Lib.hid (D0.out.more b1)
      have g0 := D1.out.g0
      have g1 := D1.out.g1
      clear b1
      go_wp2_with fail
      refine (cX _ D1.out.1).mono ?_
      rintro e' w2 ⟨rfl, c2, k2⟩
      have D2 := Lib.hid (D1.out.step c2 k2)
      clear c2 k2 g0 g1
      go_wp2
      exact bodyPost_ret (v := .tuple #[.string ⟨#[]⟩, .int .i64 y2]) (by simp [results, Tryd.results83, go_sem]) rfl ⟨⟨_, rfl, fun h => absurd h hmn⟩, D2.out.1, D2.out.2.1⟩
    · have hav := attr2_sq s i N k hq hr
      rw [hr] at cS
      replace hq := hr
      unfold rdrV at *
      have hk1 : k + 1 ≤ s.size := by
        have := hasP_len hq (by simp)
        simp only [List.length_cons, List.length_nil] at this
        omega
      have hx0 : expP s i k [39] = ((k : Int) + 1, 0) := if_pos hq
      have cX : ∀ wx, Cur wx p s k → _ := fun wx h => tag_expect p s ⟨#[39]⟩ i k wx h hk hs (by decide)
      rw [show (⟨#[39]⟩ : ByteArray).data.toList = [39] from rfl, hx0] at cX
      simp only at cX
      have cD : ∀ wx, Cur wx p s ((k : Int) + 1) → TkT p wx → _ := fun wx h t => cur_data_true p s ⟨#[60, 39]⟩ (k + 1) [60, 39] wx (by rw [show ((k + 1 : Nat) : Int) = (k : Int) + 1 by omega]; exact h) hk1 hs (by intro c hc; simp at hc; rcases hc with rfl | rfl <;> simp) rfl (by decide) (by decide) t
      have hok := contP_ok s.data.toList (k + 1) (stopAt [60, 39] s.data.toList (k + 1)) true
      have hle := stopAt_le [60, 39] s.data.toList (k + 1) (by omega)
      have hqe := quo_exp s i N k 39 (by decide) hk1
      rw [hav]
      have cY : ∀ wx, Cur wx p s ((stopAt [60, 39] s.data.toList (k + 1) : Nat) : Int) → _ := fun wx h => tag_expect p s ⟨#[39]⟩ i (stopAt [60, 39] s.data.toList (k + 1)) wx h (by omega) hs (by decide)
      rw [show (⟨#[39]⟩ : ByteArray).data.toList = [39] from rfl] at cY
      generalize stopAt [60, 39] s.data.toList (k + 1) = e at *
      generalize contP s.data.toList (k + 1) e true = cp at *
      obtain ⟨V, x, er⟩ := cp
      simp only at cD hok
      by_cases her : er = 0
      · subst her
        have hxe := hok rfl
        subst hxe
        rw [hqe V]
        generalize expP s (i : Int) e [39] = ep at *
        obtain ⟨y1, y2⟩ := ep
        simp only at cY ⊢
        obtain ⟨V2, hV2⟩ : ∃ V2, (if y2 = 0 then V else []) = V2 := ⟨_, rfl⟩
        rw [hV2]
        have HV := Lib.hid (show y2 = 0 → V = V2 from fun h => by rw [← hV2, if_pos h])
        have t0 := hT.keep D0.out.2.1
        clear hV2 hok hle hqe hx0 hq hav hC
        go_enter Tryd.func83, Tryd.ntmps83
        go_wp2_with fail
        refine (cS _ D0.out.1).mono ?_
        rintro e' w1 ⟨rfl, b1⟩
        have D1 := Lib.hid (D0.out.more b1)
        have g0 := D1.out.g0
        have g1 := D1.out.g1
        clear b1
        go_wp2_with fail
        refine (cX _ D1.out.1).mono ?_
        rintro e' w2 ⟨rfl, c2, k2⟩
        have D2 := Lib.hid (D1.out.step c2 k2)
        have g0 := D2.out.g0
        have g1 := D2.out.g1
        have t2 := hT.keep D2.out.2.1
        clear c2 k2
        go_wp2_with fail
        refine (cD _ D2.out.1 t2).mono ?_
        rintro e' w3 ⟨rfl, c3, k3⟩
        have D3 := Lib.hid (D2.out.step c3 k3)
        clear g0 g1 t2
        have g0 := D3.out.g0
        have g1 := D3.out.g1
        clear c3 k3
        go_wp2_with fail
        refine (cY _ D3.out.1).mono ?_
        rintro e' w4 ⟨rfl, c4, k4⟩
        have D4 := Lib.hid (D3.out.step c4 k4)
        clear c4 k4 g0 g1
        go_wp2
        exact bodyPost_ret (v := .tuple #[.string (ofBytes V), .int .i64 y2]) (by simp [results, Tryd.results83, go_sem]) rfl ⟨⟨_, rfl, fun h => by rw [HV.out h]⟩, D4.out.1, D4.out.2.1⟩
      · have ha4 : attr4 s i N e (V, x, er) = ((N, []), x, er) := attr4_err her
        rw [ha4]
        have herb : (er != 0) = true := by simpa using her
        have t0 := hT.keep D0.out.2.1
        clear hok hle hqe hx0 hq hav cY hC ha4
        simp only
        go_enter Tryd.func83, Tryd.ntmps83
        go_wp2_with fail
        refine (cS _ D0.out.1).mono ?_
        rintro e' w1 ⟨rfl, b1⟩
        have D1 := Lib.hid (D0.out.more b1)
        have g0 := D1.out.g0
        have g1 := D1.out.g1
        clear b1
        go_wp2_with fail
        refine (cX _ D1.out.1).mono ?_
        rintro e' w2 ⟨rfl, c2, k2⟩
        have D2 := Lib.hid (D1.out.step c2 k2)
        have g0 := D2.out.g0
        have g1 := D2.out.g1
        have t2 := hT.keep D2.out.2.1
        clear c2 k2
        go_wp2_with fail
        refine (cD _ D2.out.1 t2).mono ?_
        rintro e' w3 ⟨rfl, c3, k3⟩
        have D3 := Lib.hid (D2.out.step c3 k3)
        clear g0 g1 t2 c3 k3
        go_wp2
        exact bodyPost_ret (v := .tuple #[.string ⟨#[]⟩, .int .i64 er]) (by simp [results, Tryd.results83, go_sem]) rfl ⟨⟨_, rfl, fun h => absurd h her⟩, D3.out.1, D3.out.2.1⟩
  · have hav := attr2_dq s i N k hq
    have hr := two_quotes hq
    rw [hr] at cS
    unfold rdrV at *
    have hk1 : k + 1 ≤ s.size := by
      have := hasP_len hq (by simp)
      simp only [List.length_cons, List.length_nil] at this
      omega
    have hx0 : expP s i k [34] = ((k : Int) + 1, 0) := if_pos hq
    have cX : ∀ wx, Cur wx p s k → _ := fun wx h => tag_expect p s ⟨#[34]⟩ i k wx h hk hs (by decide)
    rw [show (⟨#[34]⟩ : ByteArray).data.toList = [34] from rfl, hx0] at cX
    simp only at cX
    have cD : ∀ wx, Cur wx p s ((k : Int) + 1) → TkT p wx → _ := fun wx h t => cur_data_true p s ⟨#[60, 34]⟩ (k + 1) [60, 34] wx (by rw [show ((k + 1 : Nat) : Int) = (k : Int) + 1 by omega]; exact h) hk1 hs (by intro c hc; simp at hc; rcases hc with rfl | rfl <;> simp) rfl (by decide) (by decide) t
    have hok := contP_ok s.data.toList (k + 1) (stopAt [60, 34] s.data.toList (k + 1)) true
    have hle := stopAt_le [60, 34] s.data.toList (k + 1) (by omega)
    have hqe := quo_exp s i N k 34 (by decide) hk1
    rw [hav]
    have cY : ∀ wx, Cur wx p s ((stopAt [60, 34] s.data.toList (k + 1) : Nat) : Int) → _ := fun wx h => tag_expect p s ⟨#[34]⟩ i (stopAt [60, 34] s.data.toList (k + 1)) wx h (by omega) hs (by decide)
    rw [show (⟨#[34]⟩ : ByteArray).data.toList = [34] from rfl] at cY
    generalize stopAt [60, 34] s.data.toList (k + 1) = e at *
    generalize contP s.data.toList (k + 1) e true = cp at *
    obtain ⟨V, x, er⟩ := cp
    simp only at cD hok
    by_cases her : er = 0
    · subst her
      have hxe := hok rfl
      subst hxe
      rw [hqe V]
      generalize expP s (i : Int) e [34] = ep at *
      obtain ⟨y1, y2⟩ := ep
      simp only at cY ⊢
      obtain ⟨V2, hV2⟩ : ∃ V2, (if y2 = 0 then V else []) = V2 := ⟨_, rfl⟩
      rw [hV2]
      have HV := Lib.hid (show y2 = 0 → V = V2 from fun h => by rw [← hV2, if_pos h])
      have t0 := hT.keep D0.out.2.1
      clear hV2 hok hle hqe hx0 hq hav hC
      go_enter Tryd.func83, Tryd.ntmps83
      go_wp2_with fail
      refine (cS _ D0.out.1).mono ?_
      rintro e' w1 ⟨rfl, b1⟩
      have D1 := Lib.hid (D0.out.more b1)
      have g0 := D1.out.g0
      have g1 := D1.out.g1
      clear b1
      go_wp2_with fail
      refine (cX _ D1.out.1).mono ?_
      rintro e' w2 ⟨rfl, c2, k2⟩
      have D2 := Lib.hid (D1.out.step c2 k2)
      have g0 := D2.out.g0
      have g1 := D2.out.g1
      have t2 := hT.keep D2.out.2.1
      clear c2 k2
      go_wp2_with fail
      refine (cD _ D2.out.1 t2).mono ?_
      rintro e' w3 ⟨rfl, c3, k3⟩
      have D3 := Lib.hid (D2.out.step c3 k3)
      clear g0 g1 t2
      have g0 := D3.out.g0
      have g1 := D3.out.g1
      clear c3 k3
      go_wp2_with fail
      refine (cY _ D3.out.1).mono ?_
      rintro e' w4 ⟨rfl, c4, k4⟩
      have D4 := Lib.hid (D3.out.step c4 k4)
      clear c4 k4 g0 g1
      go_wp2
      exact bodyPost_ret (v := .tuple #[.string (ofBytes V), .int .i64 y2]) (by simp [results, Tryd.results83, go_sem]) rfl ⟨⟨_, rfl, fun h => by rw [HV.out h]⟩, D4.out.1, D4.out.2.1⟩
    · have ha4 : attr4 s i N e (V, x, er) = ((N, []), x, er) := attr4_err her
      rw [ha4]
      have herb : (er != 0) = true := by simpa using her
      have t0 := hT.keep D0.out.2.1
      clear hok hle hqe hx0 hq hav cY hC ha4
      simp only
      go_enter Tryd.func83, Tryd.ntmps83
      go_wp2_with fail
      refine (cS _ D0.out.1).mono ?_
      rintro e' w1 ⟨rfl, b1⟩
      have D1 := Lib.hid (D0.out.more b1)
      have g0 := D1.out.g0
      have g1 := D1.out.g1
      clear b1
      go_wp2_with fail
      refine (cX _ D1.out.1).mono ?_
      rintro e' w2 ⟨rfl, c2, k2⟩
      have D2 := Lib.hid (D1.out.step c2 k2)
      have g0 := D2.out.g0
      have g1 := D2.out.g1
      have t2 := hT.keep D2.out.2.1
      clear c2 k2
      go_wp2_with fail
      refine (cD _ D2.out.1 t2).mono ?_
      rintro e' w3 ⟨rfl, c3, k3⟩
      have D3 := Lib.hid (D2.out.step c3 k3)
      clear g0 g1 t2 c3 k3
      go_wp2
      exact bodyPost_ret (v := .tuple #[.string ⟨#[]⟩, .int .i64 er]) (by simp [results, Tryd.results83, go_sem]) rfl ⟨⟨_, rfl, fun h => absurd h her⟩, D3.out.1, D3.out.2.1⟩
end
section
open Go.RowKit

/-- The same with the block of the result behind the receiver's. -/
def AT (cs : Array Value) (T : TypeId) (w wx : World) (p : Nat) (s : ByteArray) (i k : Int) : Prop := TR w wx p s i k ∧ Blk wx (w.heap.size + 1) cs T
theorem AT.new {w : World} {p : Nat} {s : ByteArray} {k : Int} (h : Cur w p s k) (i : Int) (cs : Array Value) (T : TypeId) : AT cs T w ((w.alloc (.cells #[.pointer (some ⟨p, 0, none⟩), .int .i64 i] 65)).alloc (.cells cs T)) p s i k := by
  refine ⟨(TR.new h i).alloc _, ?_⟩
  have := Blk.new (w.alloc (.cells #[.pointer (some ⟨p, 0, none⟩), .int .i64 i] 65)) cs T
  rw [show (w.alloc (.cells #[.pointer (some ⟨p, 0, none⟩), .int .i64 i] 65)).heap.size = w.heap.size + 1 by simp] at this
  exact this
theorem AT.more {cs : Array Value} {T : TypeId} {w wx wy : World} {p : Nat} {s : ByteArray} {i k : Int} (h : AT cs T w wx p s i k) (b : Below wx.heap.size wx wy) : AT cs T w wy p s i k := ⟨h.1.more b, h.2.more b⟩
theorem AT.step {cs : Array Value} {T : TypeId} {w wx wy : World} {p : Nat} {s : ByteArray} {i k k' : Int} (h : AT cs T w wx p s i k) (c : Cur wy p s k') (q : Keep p wx wy) : AT cs T w wy p s i k' := ⟨h.1.step c q, h.2.keep q (by have := h.1.2.2.2; omega)⟩
def attrZ : Array Value := #[.string ⟨#[]⟩, .string ⟨#[]⟩, .string ⟨#[]⟩, .int .i64 0]
theorem AT.cells {w wx : World} {p : Nat} {s : ByteArray} {i k : Int} {T : TypeId} (h : AT attrZ T w wx p s i k) : (wx.cell? ⟨w.heap.size + 1, 0, none⟩ = some (.string ⟨#[]⟩) ∧ wx.cell? ⟨w.heap.size + 1, 1, none⟩ = some (.string ⟨#[]⟩) ∧ wx.cell? ⟨w.heap.size + 1, 2, none⟩ = some (.string ⟨#[]⟩) ∧ wx.cell? ⟨w.heap.size + 1, 3, none⟩ = some (.int .i64 0)) ∧ (wx.frozen? ⟨w.heap.size + 1, 0, none⟩ = false ∧ wx.frozen? ⟨w.heap.size + 1, 1, none⟩ = false ∧ wx.frozen? ⟨w.heap.size + 1, 2, none⟩ = false ∧ wx.frozen? ⟨w.heap.size + 1, 3, none⟩ = false) :=
  ⟨⟨(h.2.cell 0).trans rfl, (h.2.cell 1).trans rfl, (h.2.cell 2).trans rfl, (h.2.cell 3).trans rfl⟩, h.2.fr 0, h.2.fr 1, h.2.fr 2, h.2.fr 3⟩
/-- Four cells are stored into the block of the result. -/
theorem TR.four {w wx : World} {p : Nat} {s : ByteArray} {i k : Int} (h : TR w wx p s i k) (u0 u1 u2 u3 : Value) : TR w ((((wx.setCell ⟨w.heap.size + 1, 0, none⟩ u0).setCell ⟨w.heap.size + 1, 1, none⟩ u1).setCell ⟨w.heap.size + 1, 2, none⟩ u2).setCell ⟨w.heap.size + 1, 3, none⟩ u3) p s i k :=
  (((h.own (q := ⟨w.heap.size + 1, 0, none⟩) (Nat.lt_succ_self _) u0).own (q := ⟨w.heap.size + 1, 1, none⟩) (Nat.lt_succ_self _) u1).own (q := ⟨w.heap.size + 1, 2, none⟩) (Nat.lt_succ_self _) u2).own (q := ⟨w.heap.size + 1, 3, none⟩) (Nat.lt_succ_self _) u3
theorem attr4_name (s : ByteArray) (i : Nat) (N : List UInt8) (e : Nat) (c : List UInt8 × Int × Int) : (attr4 s i N e c).1.1 = N := by
  unfold attr4
  split
  · rfl
  · split
    · rfl
    · split <;> rfl
theorem attr2_name (s : ByteArray) (i : Nat) (N : List UInt8) (m : Nat) (_h : (attr2 s i N m).2.2 = 0) : (attr2 s i N m).1.1 = N := by
  unfold attr2 attr3
  split
  · exact attr4_name ..
  · split
    · exact attr4_name ..
    · rfl
set_option maxRecDepth 100000 in
set_option maxHeartbeats 16000000 in
theorem tag_attr (p : Nat) (s : ByteArray) (i k : Nat) (w : World) (hC : Cur w p s k) (hk : k ≤ s.size) (hs : s.size ≤ 1000000) (hT : TkT p w) :
    Calls Tryd.prog 74 #[rdrV p i] w fun e w' => (∃ N V a, e = .returned (.tuple #[.agg #[.string ⟨#[]⟩, .string N, .string V, .int .i64 a], .int .i64 (attrP s i k).2.2]) ∧ ((attrP s i k).2.2 = 0 → N = ofBytes (attrP s i k).1.1 ∧ V = ofBytes (attrP s i k).1.2 ∧ a = (k : Int))) ∧ Cur w' p s (attrP s i k).2.1 ∧ Keep p w w' := by
  have hsl : s.data.toList.length = s.size := by simp
  have D0 := Lib.hid (AT.new hC i attrZ 38)
  unfold attrZ at D0
  have t0 := hT.keep D0.out.1.2.1
  have q0 := D0.out.1.1.c1
  have hap := attrP_def s i k
  by_cases hn : nmP s k = k
  · have cN : ∀ wx, Cur wx p s k → TkT p wx → _ := fun wx h t => tag_name_no p s i k wx h hk hs t hn
    rw [hap, if_pos hn]
    have hmn := misP_ne s.size i (k : Int)
    generalize misP s.size i (k : Int) = mp at *
    obtain ⟨y1, y2⟩ := mp
    simp only at cN hmn ⊢
    have herb : (y2 != 0) = true := by simpa using hmn
    unfold rdrV at *
    clear hap hn hC hsl
    go_enter Tryd.func74, Tryd.ntmps74
    go_wp2_with fail
    refine (cN _ D0.out.1.1 t0).mono ?_
    rintro e w1 ⟨rfl, c1, k1⟩
    have D1 := Lib.hid (D0.out.step c1 k1)
    obtain ⟨⟨r0, r1, r2, r3⟩, f0, f1, f2, f3⟩ := AT.cells D1.out
    clear c1 k1 q0 t0
    go_wp2
    exact bodyPost_ret (v := .tuple #[.agg #[.string ⟨#[]⟩, .string ⟨#[]⟩, .string ⟨#[]⟩, .int .i64 0], .int .i64 y2]) (by simp [results, Tryd.results74, go_sem, cell_set_same, r0, r1, r2, r3]) rfl ⟨⟨_, _, _, rfl, fun h => absurd h hmn⟩, (D1.out.1.four _ _ _ _).1, (D1.out.1.four _ _ _ _).2.1⟩
  · have cN : ∀ wx, Cur wx p s k → TkT p wx → _ := fun wx h t => tag_name_yes p s i k wx h hk hs t hn
    rw [if_neg hn] at hap
    have hle := nmP_le s k hk
    have cS : ∀ wx, Cur wx p s (nmP s k : Nat) → _ := fun wx h => cur_skipSpace p s (nmP s k) wx h hle.2 hs
    have hsp := spP_le s.data.toList (nmP s k) (by omega)
    have cE : ∀ wx, Cur wx p s (spP s.data.toList (nmP s k) : Nat) → _ := fun wx h => tag_expect p s ⟨#[61]⟩ i (spP s.data.toList (nmP s k)) wx h (by omega) hs (by decide)
    rw [show (⟨#[61]⟩ : ByteArray).data.toList = [61] from rfl] at cE
    unfold attr1 at hap
    generalize spP s.data.toList (nmP s k) = k1 at *
    generalize decide (nmP s k < k1) = bb at *
    generalize (s.data.toList.drop k).take (nmP s k - k) = N at *
    generalize nmP s k = nk at *
    rcases h61 : hasP s.data.toList (k1 : Int) [61] with _ | _
    · rw [h61, if_neg (by decide)] at hap
      rw [show expP s i k1 [61] = misP s.size i k1 by unfold expP; rw [h61]; rfl] at cE
      rw [hap]
      have hmn := misP_ne s.size i (k1 : Int)
      generalize misP s.size i (k1 : Int) = mp at *
      obtain ⟨y1, y2⟩ := mp
      simp only at cE hmn ⊢
      have herb : (y2 != 0) = true := by simpa using hmn
      generalize ofBytes N = NS at *
      unfold rdrV at *
      clear hap hn hC hsl hle hsp h61
      go_enter Tryd.func74, Tryd.ntmps74
      go_wp2_with fail
      refine (cN _ D0.out.1.1 t0).mono ?_
      rintro e w1 ⟨rfl, c1, k1⟩
      have D1 := Lib.hid (D0.out.step c1 k1)
      have g0 := D1.out.1.g0
      have g1 := D1.out.1.g1
      clear c1 k1 q0 t0
      go_wp2_with fail
      refine (cS _ D1.out.1.1).mono ?_
      rintro e w2 ⟨rfl, c2, k2⟩
      have D2 := Lib.hid (D1.out.step c2 k2)
      clear g0 g1 c2 k2
      have g0 := D2.out.1.g0
      have g1 := D2.out.1.g1
      go_wp2_with fail
      refine (cE _ D2.out.1.1).mono ?_
      rintro e w3 ⟨rfl, c3, k3⟩
      have D3 := Lib.hid (D2.out.step c3 k3)
      clear g0 g1 c3 k3
      obtain ⟨⟨r0, r1, r2, r3⟩, f0, f1, f2, f3⟩ := AT.cells D3.out
      go_wp2
      exact bodyPost_ret (v := .tuple #[.agg #[.string ⟨#[]⟩, .string ⟨#[]⟩, .string ⟨#[]⟩, .int .i64 0], .int .i64 y2]) (by simp [results, Tryd.results74, go_sem, cell_set_same, r0, r1, r2, r3]) rfl ⟨⟨_, _, _, rfl, fun h => absurd h hmn⟩, (D3.out.1.four _ _ _ _).1, (D3.out.1.four _ _ _ _).2.1⟩
    · rw [h61, if_pos rfl] at hap
      have hk1 : k1 + 1 ≤ s.size := by
        have := hasP_len h61 (by simp)
        simp only [List.length_cons, List.length_nil] at this
        omega
      rw [show expP s i k1 [61] = ((k1 : Int) + 1, 0) by unfold expP; rw [h61]; rfl] at cE
      simp only at cE
      have hsp2 := spP_le s.data.toList (k1 + 1) (by omega)
      have cT : ∀ wx, Cur wx p s ((k1 : Int) + 1) → _ := fun wx h => cur_skipSpace p s (k1 + 1) wx (by rw [show ((k1 + 1 : Nat) : Int) = (k1 : Int) + 1 by omega]; exact h) hk1 hs
      have cV : ∀ wx, Cur wx p s (spP s.data.toList (k1 + 1) : Nat) → TkT p wx → _ := fun wx h t => tag_value p s i (spP s.data.toList (k1 + 1)) N wx h (by omega) hs t
      rw [hap]
      have ha1 : (attr2 s i N (spP s.data.toList (k1 + 1))).2.2 = 0 → (attr2 s i N (spP s.data.toList (k1 + 1))).1.1 = N := attr2_name s i N _
      have HAN := Lib.hid ha1
      clear ha1
      generalize decide (k1 + 1 < spP s.data.toList (k1 + 1)) = bc at *
      generalize attr2 s i N (spP s.data.toList (k1 + 1)) = av at *
      obtain ⟨⟨aN, aV⟩, x, er⟩ := av
      simp only at cV HAN ⊢
      generalize spP s.data.toList (k1 + 1) = k2 at *
      have HNS := Lib.hid (show er = 0 → ofBytes N = ofBytes aN from fun h => by rw [HAN.out h])
      generalize ofBytes N = NS at *
      unfold rdrV at *
      clear hap hn hC hsl hle hsp hsp2 h61 HAN
      go_enter Tryd.func74, Tryd.ntmps74
      go_wp2_with fail
      refine (cN _ D0.out.1.1 t0).mono ?_
      rintro e w1 ⟨rfl, c1, k1'⟩
      have D1 := Lib.hid (D0.out.step c1 k1')
      have g0 := D1.out.1.g0
      have g1 := D1.out.1.g1
      clear c1 k1' q0 t0
      go_wp2_with fail
      refine (cS _ D1.out.1.1).mono ?_
      rintro e w2 ⟨rfl, c2, k2'⟩
      have D2 := Lib.hid (D1.out.step c2 k2')
      clear g0 g1 c2 k2'
      have g0 := D2.out.1.g0
      have g1 := D2.out.1.g1
      go_wp2_with fail
      refine (cE _ D2.out.1.1).mono ?_
      rintro e w3 ⟨rfl, c3, k3⟩
      have D3 := Lib.hid (D2.out.step c3 k3)
      clear g0 g1 c3 k3
      have g0 := D3.out.1.g0
      have g1 := D3.out.1.g1
      go_wp2_with fail
      refine (cT _ D3.out.1.1).mono ?_
      rintro e w4 ⟨rfl, c4, k4⟩
      have D4 := Lib.hid (D3.out.step c4 k4)
      have t4 := hT.keep D4.out.1.2.1
      clear g0 g1 c4 k4
      have g0 := D4.out.1.g0
      have g1 := D4.out.1.g1
      go_wp2_with fail
      refine (cV _ D4.out.1.1 t4).mono ?_
      rintro e w5 ⟨⟨VS, rfl, hvs⟩, c5, k5⟩
      have HVS := Lib.hid hvs
      have D5 := Lib.hid (D4.out.step c5 k5)
      clear g0 g1 c5 k5 t4 hvs
      obtain ⟨⟨r0, r1, r2, r3⟩, f0, f1, f2, f3⟩ := AT.cells D5.out
      go_wp2
      exact bodyPost_ret (v := .tuple #[.agg #[.string ⟨#[]⟩, .string NS, .string VS, .int .i64 k], .int .i64 er]) (by simp [results, Tryd.results74, go_sem, cell_set_same, r0, r1, r2, r3]) rfl ⟨⟨_, _, _, rfl, fun h => ⟨HNS.out h, HVS.out h, rfl⟩⟩, (D5.out.1.four _ _ _ _).1, (D5.out.1.four _ _ _ _).2.1⟩
end
section
open Go.RowKit Go.Maps

/-! ### the set of names -/
def nmD : List AttrD → DataW Unit
  | [] => .map []
  | x :: r => (nmD r).put (.string x.nm.data.toList) (.lit (.bool true))
theorem nmD_map : ∀ l, IsMap (nmD l)
  | [] => isMap_empty
  | _ :: r => (nmD_map r).put _ _
theorem nm_keyLit (t : List UInt8) : WideAt.IsKeyLit (.string t) := trivial
theorem nmD_yes (t : List UInt8) : ∀ l : List AttrD, (∃ x ∈ l, x.nm.data.toList = t) → (nmD l).atKey (.string t) (.lit (.bool false)) = .lit (.bool true)
  | [], h => by obtain ⟨x, hx, _⟩ := h; simp at hx
  | y :: r, h => by
    rw [nmD]
    by_cases hy : y.nm.data.toList = t
    · rw [hy, atKey_put_same (nmD_map r) (nm_keyLit _)]
    · rw [atKey_put_other (by simpa using fun e : t = y.nm.data.toList => hy e.symm)]
      refine nmD_yes t r ?_
      obtain ⟨x, hx, he⟩ := h
      rcases List.mem_cons.1 hx with rfl | hx
      · exact absurd he hy
      · exact ⟨x, hx, he⟩
theorem nmD_no (t : List UInt8) : ∀ l : List AttrD, (¬ ∃ x ∈ l, x.nm.data.toList = t) → (nmD l).atKey (.string t) (.lit (.bool false)) = .lit (.bool false)
  | [], _ => rfl
  | y :: r, h => by
    rw [nmD, atKey_put_other (by simpa using fun e : t = y.nm.data.toList => h ⟨y, List.mem_cons_self .., e.symm⟩)]
    exact nmD_no t r fun ⟨x, hx, he⟩ => h ⟨x, List.mem_cons_of_mem _ hx, he⟩
theorem slaw : Keyed Tryd.prog 9 := string_keyed Tryd.underlying9
theorem zero_bool (w : World) : (zeroValue 4).run Tryd.prog w = .ok (.bool false) w := by kernel_rfl
theorem plainElem_bool_inv {P : Program} {e : TypeId} (he : P.underlying e = some .bool) {v : Value} {z : DataW Unit × List MemPlace} (h : plainElem P e v = some z) : ∃ b : Bool, v = .bool b ∧ z = (.lit (.bool b), []) := by
  unfold plainElem at h
  rw [he] at h
  cases v <;> simp at h
  exact ⟨_, rfl, h.symm⟩
/-- The set of the names of some attributes, in block b. -/
def NmSet (w : World) (b : Nat) (l : List AttrD) : Prop := w.ownsMap Tryd.prog 9 (plainElem Tryd.prog 4) b l.length (nmD l)
theorem NmSet.same {w w' : World} {b : Nat} {l : List AttrD} (h : NmSet w b l) (hb : w'.heap[b]? = w.heap[b]?) : NmSet w' b l := by
  obtain ⟨es, clock, h1, h2⟩ := h
  exact ⟨es, clock, hb.trans h1, h2⟩
theorem NmSet.lt {w : World} {b : Nat} {l : List AttrD} (h : NmSet w b l) : b < w.heap.size := by
  obtain ⟨es, clock, h1, _⟩ := h
  exact (Array.getElem?_eq_some_iff.1 h1).1
theorem NmSet.look_yes {w : World} {b : Nat} {l : List AttrD} (h : NmSet w b l) (s : ByteArray) (hs : s.size ≤ maxLen) (hd : ∃ x ∈ l, x.nm = s) : (Instr.lookup 104 (.map (some b)) (.string s) false).run Tryd.prog w = .ok (.bool true) w := by
  obtain ⟨v, ps, hrun, hv⟩ := World.ownsMap.lookup h slaw Tryd.underlying104 (zero_bool w) (plainElem_bool Tryd.underlying4 false) (Go.WideMaps.keyOf_string_mk Tryd.underlying9 hs)
  obtain ⟨c, rfl, hz⟩ := plainElem_bool_inv Tryd.underlying4 hv
  simp only [Prod.mk.injEq] at hz
  rw [hrun]
  have h3 := nmD_yes s.data.toList l (by obtain ⟨x, hx, rfl⟩ := hd; exact ⟨x, hx, rfl⟩)
  rw [Lit.bool.inj (DataW.lit.inj (hz.1.symm.trans h3))]
theorem NmSet.look_no {w : World} {b : Nat} {l : List AttrD} (h : NmSet w b l) (s : ByteArray) (hs : s.size ≤ maxLen) (hd : ¬ ∃ x ∈ l, x.nm = s) : (Instr.lookup 104 (.map (some b)) (.string s) false).run Tryd.prog w = .ok (.bool false) w := by
  obtain ⟨v, ps, hrun, hv⟩ := World.ownsMap.lookup h slaw Tryd.underlying104 (zero_bool w) (plainElem_bool Tryd.underlying4 false) (Go.WideMaps.keyOf_string_mk Tryd.underlying9 hs)
  obtain ⟨c, rfl, hz⟩ := plainElem_bool_inv Tryd.underlying4 hv
  simp only [Prod.mk.injEq] at hz
  rw [hrun]
  have h3 := nmD_no s.data.toList l (fun ⟨x, hx, he⟩ => hd ⟨x, hx, kstr_ext he⟩)
  rw [Lit.bool.inj (DataW.lit.inj (hz.1.symm.trans h3))]
/-- What start gives behind the attributes. -/
def startEnd (s : ByteArray) (i : Nat) (N : List UInt8) (m : Nat) (al : List AttrD) : StartR :=
  if hasP s.data.toList (m : Int) [62] then ⟨N, al, false, (m : Int) + 1, 0⟩
  else if hasP s.data.toList (m : Int) [47, 62] then ⟨N, al, true, (m : Int) + 2, 0⟩
  else if hasP s.data.toList (m : Int) [47] then ⟨N, al, false, (misP s.size i ((m : Int) + 1)).1, (misP s.size i ((m : Int) + 1)).2⟩
  else ⟨N, al, false, (misP s.size i (m : Int)).1, (misP s.size i (m : Int)).2⟩
theorem has_pre {l : List UInt8} {m : Int} {a b : UInt8} (h : hasP l m [a, b] = true) : hasP l m [a] = true := by
  unfold hasP at *
  rw [Bool.and_eq_true] at *
  refine ⟨h.1, ?_⟩
  cases hd : l.drop m.toNat with
  | nil => rw [hd] at h; simp [List.isPrefixOf] at h
  | cons x r =>
    have h2 := h.2
    rw [hd] at h2
    simp [List.isPrefixOf] at h2 ⊢
    exact h2.1
theorem startGo_end (s : ByteArray) (i : Nat) (N : List UInt8) (f a : Nat) (acc : List AttrD) (h : spP s.data.toList a = a ∨ hasP s.data.toList (spP s.data.toList a : Nat) [47] = true ∨ hasP s.data.toList (spP s.data.toList a : Nat) [62] = true) : startGo s i N (f + 1) a acc = startEnd s i N (spP s.data.toList a) acc := by
  rw [startGo]
  unfold startEnd
  by_cases h1 : hasP s.data.toList (spP s.data.toList a : Nat) [62] = true
  · rw [if_pos h1, if_pos h1]
  · rw [if_neg h1, if_neg h1]
    by_cases h2 : hasP s.data.toList (spP s.data.toList a : Nat) [47, 62] = true
    · rw [if_pos h2, if_pos h2]
    · rw [if_neg h2, if_neg h2]
      by_cases h3 : hasP s.data.toList (spP s.data.toList a : Nat) [47] = true
      · rw [if_pos h3, if_pos h3]
      · rw [if_neg h3, if_neg h3]
        rcases h with h | h | h
        · rw [if_pos h, h]
        · exact absurd h h3
        · exact absurd h h1
theorem startGo_att (s : ByteArray) (i : Nat) (N : List UInt8) (f a : Nat) (acc : List AttrD) (h0 : spP s.data.toList a ≠ a) (h1 : hasP s.data.toList (spP s.data.toList a : Nat) [47] = false) (h2 : hasP s.data.toList (spP s.data.toList a : Nat) [62] = false) : startGo s i N (f + 1) a acc =
    if (attrP s i (spP s.data.toList a)).2.2 ≠ 0 then ⟨N, acc, false, (attrP s i (spP s.data.toList a)).2.1, (attrP s i (spP s.data.toList a)).2.2⟩
    else if ∃ x ∈ acc, x.nm = ofBytes (attrP s i (spP s.data.toList a)).1.1 then ⟨N, acc, false, (spP s.data.toList a : Nat), 10⟩
    else startGo s i N f (attrP s i (spP s.data.toList a)).2.1.toNat (acc ++ [attrOf (attrP s i (spP s.data.toList a)).1.1 (attrP s i (spP s.data.toList a)).1.2 (spP s.data.toList a)]) := by
  rw [startGo, if_neg (by rw [h2]; decide), if_neg (fun h => by rw [has_pre h] at h1; cases h1), if_neg (by rw [h1]; decide), if_neg h0]
theorem attrP_nm (s : ByteArray) (i a : Nat) : (attrP s i a).1.1.length ≤ s.data.toList.length := by
  rw [attrP_def]
  split
  · simp
  · have h1 : (attr1 s i ((s.data.toList.drop a).take (nmP s a - a)) (spP s.data.toList (nmP s a))).1.1 = (s.data.toList.drop a).take (nmP s a - a) := by
      unfold attr1
      split
      · unfold attr2 attr3
        split
        · exact attr4_name ..
        · split
          · exact attr4_name ..
          · rfl
      · rfl
    rw [h1, List.length_take, List.length_drop]
    omega
theorem TR.grown {w wx wy : World} {p : Nat} {s : ByteArray} {i k : Int} {row : Option Nat} (h : TR w wx p s i k) (hg : wx.grownBy wy row) (hr : ∀ x, row = some x → w.heap.size < x) : TR w wy p s i k := by
  have hp := h.2.2.2
  refine ⟨(hg.block p h.1.lt (fun e => by have := hr p e.symm; omega)).trans h.1, h.2.1.grown hg (fun x hx => Nat.le_of_lt (hr x hx)), ?_, hp⟩
  exact (hg.block w.heap.size h.2.2.1.lt (fun e => by have := hr _ e.symm; omega)).trans h.2.2.1
/-- Within attributes: the reader, the row of attributes, the set of their names. -/
def AttR (w wx : World) (p : Nat) (s : ByteArray) (i k : Int) (v : Value) (l : List AttrD) : Prop := TR w wx p s i k ∧ wx.ownsRow (w.heap.size + 2) 38 4 v l.length (attrsCells l) ∧ NmSet wx (w.heap.size + 1) l.reverse
theorem AttR.step {w wx wy : World} {p : Nat} {s : ByteArray} {i k k' : Int} {v : Value} {l : List AttrD} (h : AttR w wx p s i k v l) (c : Cur wy p s k') (q : Keep p wx wy) : AttR w wy p s i k' v l := by
  have hp := h.1.2.2.2
  exact ⟨h.1.step c q, q.row h.2.1 (by omega), h.2.2.same (q.block _ h.2.2.lt (by omega))⟩
theorem AttR.more {w wx wy : World} {p : Nat} {s : ByteArray} {i k : Int} {v : Value} {l : List AttrD} (h : AttR w wx p s i k v l) (b : Below wx.heap.size wx wy) : AttR w wy p s i k v l := h.step (h.1.1.keep b) (Keep.of b)
theorem AttR.alloc {w wx : World} {p : Nat} {s : ByteArray} {i k : Int} {v : Value} {l : List AttrD} (h : AttR w wx p s i k v l) (o : Obj) : AttR w (wx.alloc o) p s i k v l := h.more ((Below.refl _ _).alloc (Nat.le_refl _) _)
/-- A round's end: the attribute stands in the row and its name in the set. -/
theorem AttR.push {w w6 w7 : World} {p : Nat} {s : ByteArray} {i k : Int} {A A' : Option Addr} {c c' : Nat} {l : List AttrD} {x : AttrD} {o : Obj} (T6 : TR w w6 p s i k) (hrow6 : w6.ownsRow (w.heap.size + 2) 38 4 (.slice A l.length c) l.length (attrsCells l)) (hmap6 : w6.ownsMap Tryd.prog 9 (plainElem Tryd.prog 4) (w.heap.size + 1) (l.reverse.length + 1) ((nmD l.reverse).put (.string x.nm.data.toList) (.lit (.bool true)))) (hgr7 : (w6.alloc o).grownBy w7 (Value.slice A l.length c).ownBlock) (hown7 : w7.ownsRow (w.heap.size + 2) 38 4 (.slice A' (l.length + 1) c') (l.length + 1) (attrsCells l ++ attrCells x)) : AttR w w7 p s i k (.slice A' (l ++ [x]).length c') (l ++ [x]) := by
  refine ⟨(T6.alloc o).grown hgr7 (fun x hx => by have := (hrow6.lt x hx).1; omega), ?_, ?_⟩
  · rw [List.length_append, attrsCells_app, show attrsCells [x] = attrCells x by simp [attrsCells]]
    exact hown7
  · rw [List.reverse_append, List.reverse_singleton, List.singleton_append]
    have hm : NmSet w6 (w.heap.size + 1) (x :: l.reverse) := hmap6
    have hl := hm.lt
    refine hm.same ((hgr7.block _ (by rw [World.size_alloc]; omega) (fun e => ?_)).trans (Below.heap_alloc _ _ _ hl))
    have := (hrow6.lt _ e.symm).1
    omega
set_option maxRecDepth 100000 in
set_option maxHeartbeats 16000000 in
theorem tag_attributes (p : Nat) (s : ByteArray) (i k : Nat) (w : World) (hC : Cur w p s k) (hk : k ≤ s.size) (hs : s.size ≤ 1000000) (hT : TkT p w) :
    Calls Tryd.prog 58 #[rdrV p i] w fun e w' => ∃ v al x er, e = .returned (.tuple #[v, .int .i64 er]) ∧ w'.ownsRow w.heap.size 38 4 v al.length (attrsCells al) ∧ Cur w' p s x ∧ Keep p w w' ∧ ((er ≠ 0 ∧ ∀ N, (startGo s i N (s.size + 1) k []).p1 = x ∧ (startGo s i N (s.size + 1) k []).p2 = er) ∨ (er = 0 ∧ ∃ m : Nat, x = (m : Int) ∧ m ≤ s.size ∧ ∀ N, startGo s i N (s.size + 1) k [] = startEnd s i N m al)) := by
  obtain ⟨i0, hi0, hi1, hi3, hi4⟩ := info_parts kinfo_attr
  have hsl : s.data.toList.length = s.size := by simp
  have HSL := Lib.hid hsl
  have hmm := @run_makeMap Tryd.prog
  have hD0 : AttR w ((w.alloc (.cells #[.pointer (some ⟨p, 0, none⟩), .int .i64 i] 65)).alloc (.map #[] 0)) p s i k (.slice none 0 0) [] := by
    refine ⟨(TR.new hC i).alloc _, World.ownsRow_nil _ _ _ _, ?_⟩
    have := World.ownsMap_made (H := Unit) (w.alloc (.cells #[.pointer (some ⟨p, 0, none⟩), .int .i64 i] 65)) Tryd.prog 9 (plainElem Tryd.prog 4)
    rw [show (w.alloc (.cells #[.pointer (some ⟨p, 0, none⟩), .int .i64 i] 65)).heap.size = w.heap.size + 1 by simp] at this
    exact this
  have hpw := hC.lt
  have hmb : (w.alloc (.cells #[.pointer (some ⟨p, 0, none⟩), .int .i64 i] 65)).heap.size = w.heap.size + 1 := by simp
  unfold rdrV
  clear hsl hC
  go_enter Tryd.func58, Tryd.ntmps58
  go_wp2
  go_loopw [4] (fun v wr => ∃ (a f : Nat) (acc : List AttrD) (A : Option Addr) (c : Nat), a ≤ s.size ∧ v = .slice A acc.length c ∧ ((∀ N, startGo s i N (s.size + 1) k [] = startGo s i N f a acc) ∧ s.size - a < f) ∧ acc.length ≤ a ∧ AttR w wr p s i a (.slice A acc.length c) acc) (fun _ wr => s.size - (intOf ((wr.cell? ⟨p, 1, none⟩).getD (.bool false))).toNat)
  case atStart => exact ⟨k, s.size + 1, [], none, 0, hk, rfl, ⟨fun _ => rfl, by omega⟩, by simp, hD0⟩
  case round =>
    clear hD0
    obtain ⟨a, f, acc, A, c, ha, rfl, ⟨hrel, hf⟩, hacc, hD⟩ := hrel
    have M1 := Lib.hid hD.1.1.c1
    obtain ⟨f, rfl⟩ : ∃ g, f = g + 1 := ⟨f - 1, by omega⟩
    have hsp := spP_le s.data.toList a (by have := HSL.out; omega)
    have cS : ∀ wx, Cur wx p s a → _ := fun wx h => cur_skipSpace p s a wx h ha hs
    have c47 : ∀ wx, Cur wx p s (spP s.data.toList a : Nat) → _ := fun wx h => cur_starts p s ⟨#[47]⟩ (spP s.data.toList a) _ wx h (by have := HSL.out; omega) rfl
    rw [show (⟨#[47]⟩ : ByteArray).data.toList = [47] from rfl] at c47
    have c62 : ∀ wx, Cur wx p s (spP s.data.toList a : Nat) → _ := fun wx h => cur_starts p s ⟨#[62]⟩ (spP s.data.toList a) _ wx h (by have := HSL.out; omega) rfl
    rw [show (⟨#[62]⟩ : ByteArray).data.toList = [62] from rfl] at c62
    have hend : (spP s.data.toList a = a ∨ hasP s.data.toList (spP s.data.toList a : Nat) [47] = true ∨ hasP s.data.toList (spP s.data.toList a : Nat) [62] = true) → ∀ N, startGo s i N (s.size + 1) k [] = startEnd s i N (spP s.data.toList a) acc := fun h N => (hrel N).trans (startGo_end s i N f a acc h)
    have g0 := hD.1.g0
    have g1 := hD.1.g1
    have hml : spP s.data.toList a ≤ s.size := by have := HSL.out; omega
    by_cases h0 : spP s.data.toList a = a
    · have HE := Lib.hid (hend (.inl h0))
      rw [decide_eq_false (show ¬ a < spP s.data.toList a by omega)] at cS
      clear hend hrel c47 c62
      generalize spP s.data.toList a = m at *
      go_wp2_with fail
      refine (cS _ hD.1.1).mono ?_
      rintro e w1 ⟨rfl, q1, k1⟩
      have D1 := Lib.hid (hD.step q1 k1)
      clear q1 k1 g0 g1
      go_wp2
      exact bodyPost_ret (v := .tuple #[.slice A acc.length c, .int .i64 0]) (by simp [results, Tryd.results58, go_sem]) rfl ⟨_, acc, _, 0, rfl, Go.Joins.ownsRow_le D1.out.2.1 (by omega), D1.out.1.1, D1.out.1.2.1, .inr ⟨rfl, m, rfl, hml, HE.out⟩⟩
    · rw [decide_eq_true (show a < spP s.data.toList a by omega)] at cS
      rcases h47 : hasP s.data.toList (spP s.data.toList a : Nat) [47] with _ | _
      · rcases h62 : hasP s.data.toList (spP s.data.toList a : Nat) [62] with _ | _
        · have hgo : ∀ N, startGo s i N (s.size + 1) k [] = _ := fun N => (hrel N).trans (startGo_att s i N f a acc h0 h47 h62)
          rw [h47] at c47
          rw [h62] at c62
          have cA : ∀ wx, Cur wx p s (spP s.data.toList a : Nat) → TkT p wx → _ := fun wx h t => tag_attr p s i (spP s.data.toList a) wx h hml hs t
          have hok := attrP_ok s i (spP s.data.toList a) hml
          have hnm := attrP_nm s i (spP s.data.toList a)
          have ham : a < spP s.data.toList a := by omega
          clear hend hrel h47 h62 h0
          generalize spP s.data.toList a = m at *
          generalize attrP s i m = ap at *
          obtain ⟨⟨aN, aV⟩, x, er⟩ := ap
          simp only at hgo cA hok hnm
          by_cases her : er = 0
          · subst her
            obtain ⟨z, rfl, hz1, hz2⟩ := hok rfl
            have hNz : (ofBytes aN).size ≤ 1000000 := by rw [ofBytes_size]; have := HSL.out; omega
            by_cases hdup : ∃ y ∈ acc, y.nm = ofBytes aN
            · have HG := Lib.hid (show ∀ N, startGo s i N (s.size + 1) k [] = ⟨N, acc, false, (m : Int), 10⟩ from fun N => by rw [hgo N, if_neg (by decide), if_pos hdup])
              have HL := Lib.hid (show ∃ y ∈ acc.reverse, y.nm = ofBytes aN from (by obtain ⟨y, hy, he⟩ := hdup; exact ⟨y, List.mem_reverse.2 hy, he⟩))
              generalize ofBytes aN = NS at *
              generalize ofBytes aV = VS at *
              clear hgo hok hnm hdup hmm
              go_wp2_with fail
              refine (cS _ hD.1.1).mono ?_
              rintro e w1 ⟨rfl, q1, k1⟩
              have D1 := Lib.hid (hD.step q1 k1)
              clear q1 k1 g0 g1
              have g0 := D1.out.1.g0
              have g1 := D1.out.1.g1
              go_wp2_with fail
              refine (c47 _ D1.out.1.1).mono ?_
              rintro e w2 ⟨rfl, b2⟩
              have D2 := Lib.hid (D1.out.more b2)
              clear b2 g0 g1
              have g0 := D2.out.1.g0
              have g1 := D2.out.1.g1
              go_wp2_with fail
              refine (c62 _ D2.out.1.1).mono ?_
              rintro e w3 ⟨rfl, b3⟩
              have D3 := Lib.hid (D2.out.more b3)
              have t3 := hT.keep D3.out.1.2.1
              clear b3 g0 g1
              have g0 := D3.out.1.g0
              have g1 := D3.out.1.g1
              go_wp2_with fail
              refine (cA _ D3.out.1.1 t3).mono ?_
              rintro e w4 ⟨⟨N4, V4, a4, rfl, h4⟩, q4, k4⟩
              have D4 := Lib.hid (D3.out.step q4 k4)
              have D5 := Lib.hid (D4.out.alloc (.cells #[.string ⟨#[]⟩, .string N4, .string V4, .int .i64 a4] 38))
              clear q4 k4 t3 g0 g1
              have g0 := D5.out.1.g0
              have g1 := D5.out.1.g1
              obtain ⟨rfl, rfl, rfl⟩ := h4 trivial
              clear h4
              have hat := D5.out.2.2.look_yes N4 (by unfold maxLen; omega) HL.out
              have D6 := Lib.hid (TR.set D5.out.1 (m : Int))
              have q5 := D5.out.1.1.c1
              have f5 := D5.out.1.1.f1
              go_wp2
              exact bodyPost_ret (v := .tuple #[.slice none 0 0, .int .i64 10]) (by simp [results, Tryd.results58, go_sem]) rfl ⟨_, [], _, 10, rfl, World.ownsRow_nil _ _ _ _, D6.out.1, D6.out.2.1, .inl ⟨by decide, fun N => by rw [HG.out N]; exact ⟨rfl, rfl⟩⟩⟩
            · have HG := Lib.hid (show ∀ N, startGo s i N (s.size + 1) k [] = startGo s i N f z (acc ++ [attrOf aN aV m]) from fun N => by rw [hgo N, if_neg (by decide), if_neg hdup, Int.toNat_natCast])
              have HL := Lib.hid (show ¬ ∃ y ∈ acc.reverse, y.nm = ofBytes aN from fun ⟨y, hy, he⟩ => hdup ⟨y, List.mem_reverse.1 hy, he⟩)
              obtain ⟨AD, hAD⟩ : ∃ AD, attrOf aN aV m = AD := ⟨_, rfl⟩
              have hA1 : AD = ⟨⟨#[]⟩, ofBytes aN, ofBytes aV, (m : Int)⟩ := hAD.symm
              rw [hAD] at HG
              clear hAD
              generalize ofBytes aN = NS at *
              generalize ofBytes aV = VS at *
              subst hA1
              clear hgo hok hnm hdup hmm
              go_wp2_with fail
              refine (cS _ hD.1.1).mono ?_
              rintro e w1 ⟨rfl, q1, k1⟩
              have D1 := Lib.hid (hD.step q1 k1)
              clear q1 k1 g0 g1
              have g0 := D1.out.1.g0
              have g1 := D1.out.1.g1
              go_wp2_with fail
              refine (c47 _ D1.out.1.1).mono ?_
              rintro e w2 ⟨rfl, b2⟩
              have D2 := Lib.hid (D1.out.more b2)
              clear b2 g0 g1
              have g0 := D2.out.1.g0
              have g1 := D2.out.1.g1
              go_wp2_with fail
              refine (c62 _ D2.out.1.1).mono ?_
              rintro e w3 ⟨rfl, b3⟩
              have D3 := Lib.hid (D2.out.more b3)
              have t3 := hT.keep D3.out.1.2.1
              clear b3 g0 g1
              have g0 := D3.out.1.g0
              have g1 := D3.out.1.g1
              go_wp2_with fail
              refine (cA _ D3.out.1.1 t3).mono ?_
              rintro e w4 ⟨⟨N4, V4, a4, rfl, h4⟩, q4, k4⟩
              have D4 := Lib.hid (D3.out.step q4 k4)
              have D5 := Lib.hid (D4.out.alloc (.cells #[.string ⟨#[]⟩, .string N4, .string V4, .int .i64 a4] 38))
              clear q4 k4 t3 g0 g1
              have g0 := D5.out.1.g0
              have g1 := D5.out.1.g1
              obtain ⟨rfl, rfl, rfl⟩ := h4 trivial
              clear h4
              have hat := D5.out.2.2.look_no N4 (by unfold maxLen; omega) HL.out
              have hkey := Go.WideMaps.keyOf_string_mk (P := Tryd.prog) Tryd.underlying9 (s := N4) (by unfold maxLen; omega)
              have hmapO := D5.out.2.2
              unfold NmSet at hmapO
              have hmlt := D4.out.2.2.lt
              have r5 : ∀ o v, (#[.string ⟨#[]⟩, .string N4, .string V4, .int .i64 (m : Int)] : Array Value)[o]? = some v → (w4.alloc (.cells #[.string ⟨#[]⟩, .string N4, .string V4, .int .i64 (m : Int)] 38)).cell? ⟨w4.heap.size, o, none⟩ = some v := fun o v hv => by rw [World.cell?_alloc_at _ _ _ _ rfl]; exact hv
              have R5 := Lib.hid r5
              have hal : acc.length ≤ 1000000 := by omega
              clear r5
              go_wp2_with (first | (at_mapUpdate; refine wpList_mapUpdate_own _ rfl _ _ _ 104 rfl 9 4 slaw Tryd.underlying104 (plainElem (H := Unit) Tryd.prog 4) (w.heap.size + 1) acc.reverse.length _ rfl hmapO (by unfold maxLen; rw [List.length_reverse]; omega) _ _ _ rfl rfl hkey _ [] (plainElem_bool Tryd.underlying4 true) ?_; intro w6 hmap6 hgr6; have T6 := Lib.hid (D5.out.1.grown hgr6 (fun x hx => by cases hx; omega)); have hrow6 := D5.out.2.1.kept hgr6 (.inr (fun e => by have := (D5.out.2.1.lt _ e).1; omega)); have s0 := hgr6.cell (R5.out 0 _ rfl) (fun e => by have e2 := Option.some.inj e; simp only at e2; omega); have s1 := hgr6.cell (R5.out 1 _ rfl) (fun e => by have e2 := Option.some.inj e; simp only at e2; omega); have s2 := hgr6.cell (R5.out 2 _ rfl) (fun e => by have e2 := Option.some.inj e; simp only at e2; omega); have s3 := hgr6.cell (R5.out 3 _ rfl) (fun e => by have e2 := Option.some.inj e; simp only at e2; omega); have z6 := hgr6.size; rw [World.size_alloc] at z6) | (at_builtin; refine wpList_append_own _ rfl (.tmp 45) (.tmp 47) 27 rfl (w.heap.size + 2) 38 i0 (.agg #[.string ⟨#[]⟩, .string ⟨#[]⟩, .string ⟨#[]⟩, .int .i64 0]) 4 56 Tryd.underlying27 hi0 hi1 hi3 hi4 rfl (by decide) (.slice A acc.length c) acc.length (attrsCells acc) rfl (hrow6.alloc _) ⟨w6.heap.size, 0, none⟩ 1 1 (attrCells ⟨⟨#[]⟩, N4, V4, (m : Int)⟩) rfl rfl (attr_new _ _ ⟨⟨#[]⟩, N4, V4, (m : Int)⟩) (attr_one _) (by unfold maxLen; omega) (by omega) (by simp; omega) ?_; intro v' w7 hown7 hgr7 _; obtain ⟨A', c', rfl⟩ := own_form hown7))
              have D7 := AttR.push T6.out hrow6 hmap6 hgr7 hown7
              exact ⟨⟨z, f, acc ++ [⟨⟨#[]⟩, N4, V4, (m : Int)⟩], A', c', hz2, by simp, ⟨HG.out, by omega⟩, by simp; omega, D7⟩, by rw [D7.1.1.c1, M1.out]; simp [intOf]; omega⟩
          · have HG := Lib.hid (show ∀ N, startGo s i N (s.size + 1) k [] = ⟨N, acc, false, x, er⟩ from fun N => by rw [hgo N, if_pos her])
            have herb : (er != 0) = true := by simpa using her
            generalize ofBytes aN = NS at *
            generalize ofBytes aV = VS at *
            clear hgo hok hnm hmm
            go_wp2_with fail
            refine (cS _ hD.1.1).mono ?_
            rintro e w1 ⟨rfl, q1, k1⟩
            have D1 := Lib.hid (hD.step q1 k1)
            clear q1 k1 g0 g1
            have g0 := D1.out.1.g0
            have g1 := D1.out.1.g1
            go_wp2_with fail
            refine (c47 _ D1.out.1.1).mono ?_
            rintro e w2 ⟨rfl, b2⟩
            have D2 := Lib.hid (D1.out.more b2)
            clear b2 g0 g1
            have g0 := D2.out.1.g0
            have g1 := D2.out.1.g1
            go_wp2_with fail
            refine (c62 _ D2.out.1.1).mono ?_
            rintro e w3 ⟨rfl, b3⟩
            have D3 := Lib.hid (D2.out.more b3)
            have t3 := hT.keep D3.out.1.2.1
            clear b3 g0 g1
            have g0 := D3.out.1.g0
            have g1 := D3.out.1.g1
            go_wp2_with fail
            refine (cA _ D3.out.1.1 t3).mono ?_
            rintro e w4 ⟨⟨N4, V4, a4, rfl, h4⟩, q4, k4⟩
            have D4 := Lib.hid (D3.out.step q4 k4)
            have D5 := Lib.hid (D4.out.alloc (.cells #[.string ⟨#[]⟩, .string N4, .string V4, .int .i64 a4] 38))
            clear q4 k4 t3 g0 g1
            have g0 := D5.out.1.g0
            have g1 := D5.out.1.g1
            clear h4
            go_wp2
            exact bodyPost_ret (v := .tuple #[.slice none 0 0, .int .i64 er]) (by simp [results, Tryd.results58, go_sem]) rfl ⟨_, [], x, er, rfl, World.ownsRow_nil _ _ _ _, D5.out.1.1, D5.out.1.2.1, .inl ⟨her, fun N => by rw [HG.out N]; exact ⟨rfl, rfl⟩⟩⟩
        · have HE := Lib.hid (hend (.inr (.inr h62)))
          rw [h47] at c47
          rw [h62] at c62
          clear hend hrel h47 h62
          generalize spP s.data.toList a = m at *
          go_wp2_with fail
          refine (cS _ hD.1.1).mono ?_
          rintro e w1 ⟨rfl, q1, k1⟩
          have D1 := Lib.hid (hD.step q1 k1)
          clear q1 k1 g0 g1
          have g0 := D1.out.1.g0
          have g1 := D1.out.1.g1
          go_wp2_with fail
          refine (c47 _ D1.out.1.1).mono ?_
          rintro e w2 ⟨rfl, b2⟩
          have D2 := Lib.hid (D1.out.more b2)
          clear b2 g0 g1
          have g0 := D2.out.1.g0
          have g1 := D2.out.1.g1
          go_wp2_with fail
          refine (c62 _ D2.out.1.1).mono ?_
          rintro e w3 ⟨rfl, b3⟩
          have D3 := Lib.hid (D2.out.more b3)
          clear b3 g0 g1
          go_wp2
          exact bodyPost_ret (v := .tuple #[.slice A acc.length c, .int .i64 0]) (by simp [results, Tryd.results58, go_sem]) rfl ⟨_, acc, _, 0, rfl, Go.Joins.ownsRow_le D3.out.2.1 (by omega), D3.out.1.1, D3.out.1.2.1, .inr ⟨rfl, m, rfl, hml, HE.out⟩⟩
      · have HE := Lib.hid (hend (.inr (.inl h47)))
        rw [h47] at c47
        clear hend hrel h47 c62
        generalize spP s.data.toList a = m at *
        go_wp2_with fail
        refine (cS _ hD.1.1).mono ?_
        rintro e w1 ⟨rfl, q1, k1⟩
        have D1 := Lib.hid (hD.step q1 k1)
        clear q1 k1 g0 g1
        have g0 := D1.out.1.g0
        have g1 := D1.out.1.g1
        go_wp2_with fail
        refine (c47 _ D1.out.1.1).mono ?_
        rintro e w2 ⟨rfl, b2⟩
        have D2 := Lib.hid (D1.out.more b2)
        clear b2 g0 g1
        go_wp2
        exact bodyPost_ret (v := .tuple #[.slice A acc.length c, .int .i64 0]) (by simp [results, Tryd.results58, go_sem]) rfl ⟨_, acc, _, 0, rfl, Go.Joins.ownsRow_le D2.out.2.1 (by omega), D2.out.1.1, D2.out.1.2.1, .inr ⟨rfl, m, rfl, hml, HE.out⟩⟩
end
end Go.Proofs.YtpphpnkijokffaaDoor
