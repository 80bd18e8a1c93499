/- Packed from the texts JpI JpJ. -/
import Derived.Test.YtdooadalkbghgaaGreatDoorVJpH
import Derived.Maps.Own
import Derived.Maps.Views
import Derived.OwnWalk
section
namespace Go.Proofs.YtdooadalkbghgaaGreatDoor
open Go.RowKit
def OutI (w0 w : World) (b : Nat) (s : ByteArray) (e : Ending) (w' : World) : Ares → Prop
  | .err a x => e = fltE a x ∧ Below w0.heap.size w0 w'
  | .ok v j => (∃ p c, e = .returned (.slice p v.items.length c) ∧ ItemsAt (sans w' (low w.heap.size)) p 0 v.items) ∧ Psr w' b s j ∧ Pb b w w'
theorem items_low {w' : World} {B B' : Nat} (h : B' ≤ B) {p : Option Addr} {l : List ValD} (hi : ItemsAt (sans w' (low B)) p 0 l) : ItemsAt (sans w' (low B')) p 0 l := ItemsAt.mono (fun a v ha => Gos.cell (Gos.low h) a v ha) l p 0 hi
theorem mems_low {w' : World} {B B' : Nat} (h : B' ≤ B) {p : Option Addr} {l : List MemD} (hi : MemsAt (sans w' (low B)) p 0 l) : MemsAt (sans w' (low B')) p 0 l := MemsAt.mono (fun a v ha => Gos.cell (Gos.low h) a v ha) l p 0 hi
set_option maxRecDepth 100000 in
set_option maxHeartbeats 16000000 in
theorem jp_items (w0 : World) (b : Nat) (s : ByteArray) (m : Nat) (hV : JqV w0 b s m) (hs : s.size ≤ 1000000) (hb : w0.heap.size ≤ b) (d u : Nat) (hu : u < s.size) (hum : s.size - u ≤ m + 1) (hc : s.data.toList.getD u 0 = 91) (hd : d ≤ 1000) (w : World) (hP : Psr w b s u) (hw : Below w0.heap.size w0 w) :
    Calls Tryz.prog 59 #[.pointer (some ⟨b, 0, none⟩), .int .i64 d] w fun e w' => OutI w0 w b s e w' (hA s.data.toList u d) := by
  have hmf : ∀ (fn : Fn) (first cap : Array Value) (w : World), (Instr.makeFunc fn first cap).run Tryz.prog w = .ok (.func fn first cap) w := fun _ _ _ _ => rfl
  have hsl : s.data.toList.length = s.size := by simp
  have hblt := hP.lt
  have hwz := hw.size
  obtain ⟨W1, hW1⟩ : ∃ W1, W1 = (((w.alloc (.cells #[.pointer (some ⟨b, 0, none⟩)] 77)).alloc (.cells #[.int .i64 (d : Int)] 3)).alloc (.cells #[.slice none 0 0] 22)) := ⟨_, rfl⟩
  have hz1 : W1.heap.size = w.heap.size + 3 := by rw [hW1]; simp
  obtain ⟨B, hBz⟩ : ∃ B, B = W1.heap.size := ⟨_, rfl⟩
  have B1 : Below w.heap.size w W1 := by rw [hW1]; exact (((Below.refl _ _).alloc (Nat.le_refl _) _).alloc (by simp) _).alloc (by simp; omega) _
  have bP : Bj W1 w.heap.size #[.pointer (some ⟨b, 0, none⟩)] 77 := by rw [hW1]; exact (Bj.first w _ _ _).more ((Below.refl _ _).alloc (Nat.le_refl _) _)
  have bD : Bj W1 (w.heap.size + 1) #[.int .i64 (d : Int)] 3 := by rw [hW1]; exact (Bj.second w _ _ _).more ((Below.refl _ _).alloc (Nat.le_refl _) _)
  have bI : Bj W1 (w.heap.size + 1 + 1) #[.slice none 0 0] 22 := by
    rw [hW1]
    have := Bj.new ((w.alloc (.cells #[.pointer (some ⟨b, 0, none⟩)] 77)).alloc (.cells #[.int .i64 (d : Int)] 3)) #[.slice none 0 0] 22
    simpa using this
  have P1 : Psr W1 b s u := hP.more B1
  have c0 : W1.cell? ⟨w.heap.size, 0, none⟩ = some (.pointer (some ⟨b, 0, none⟩)) := bP.cell 0
  have cd : W1.cell? ⟨w.heap.size + 1, 0, none⟩ = some (.int .i64 (d : Int)) := bD.cell 0
  have hw1 : Below w0.heap.size w0 W1 := hw.trans (B1.mono hwz)
  by_cases hdd : 100 < d
  · have cL' := jp_list_deep w0 b s 93 (.func (.func 77) #[] #[.pointer (some ⟨w.heap.size + 1 + 1, 0, none⟩), .pointer (some ⟨w.heap.size, 0, none⟩), .pointer (some ⟨w.heap.size + 1, 0, none⟩)]) (d : Int) (by omega) u W1 P1 hw1
    have cL := fun (wx : World) (hx : wx = W1) => (show Calls Tryz.prog 76 _ wx _ from hx ▸ cL')
    clear cL'
    have hH : hA s.data.toList u d = .err u 9 := by rw [hA_eq _ _ _ (by rw [hsl]; exact hu), hc, if_neg (by decide), if_neg (by decide), if_neg (by decide), if_neg (by decide), if_pos (.inl rfl), if_pos (by omega)]
    rw [hH]
    clear hV hP hw B1 bP bD bI P1 hw1 hH hc hsl
    go_enter Tryz.func59, Tryz.ntmps59
    go_wp2_with fail
    refine (cL _ hW1.symm).mono ?_
    rintro e w3 ⟨rfl, hB⟩
    go_wp2
    exact ⟨rfl, rfl, hB⟩
  · have hE0 : ItE w B b (w.heap.size + 1 + 1) w.heap.size (w.heap.size + 1) d [] (u + 1) W1 :=
      ⟨Pj.of B1, Nat.zero_le _, bP, bD, by omega, _, [], bI, World.ownsRow_nil _ _ _ _, by rw [VRow]⟩
    have cL' := jp_list (ItE w B b (w.heap.size + 1 + 1) w.heap.size (w.heap.size + 1) d) (stepA s.data.toList d) w0 b s 93 93 rfl 77 #[.pointer (some ⟨w.heap.size + 1 + 1, 0, none⟩), .pointer (some ⟨w.heap.size, 0, none⟩), .pointer (some ⟨w.heap.size + 1, 0, none⟩)] hs hb
      (fun args wx => by rfl) (fun st i i' wa wb h k hi => h.more k hi (by omega) (by omega) (by omega) (by omega)) (fun st i st' j hi h => by have := stepA_end (by rw [hsl]; exact hi) h; rw [hsl] at this; exact this)
      u (fun st i wx hi hui hE hPx hwx => jp_item w0 b s m hV hs w B (w.heap.size + 1 + 1) w.heap.size (w.heap.size + 1) d (by omega) hb (by omega) (by omega) (by omega) (by omega) (by omega) (by omega) (by omega) (by omega) (by omega) (by omega) (by omega) st i wx hi (by omega) hE hPx hwx)
      (d : Int) (by omega) [] hu W1 P1 hE0 hw1
    have cL := fun (wx : World) (hx : wx = W1) => (show Calls Tryz.prog 76 _ wx _ from hx ▸ cL')
    clear cL'
    have hH := hA_arr s.data.toList u d (by rw [hsl]; exact hu) hc (by omega)
    rw [hH]
    generalize loopL (stepA s.data.toList d) 93 s.data.toList (s.data.toList.length + 1) [] true (u + 1) = T at *
    clear hV hP hw B1 bP bD bI P1 hw1 hH hc hsl hE0
    cases T with
    | err a x =>
      simp only [OutL] at cL
      go_enter Tryz.func59, Tryz.ntmps59
      go_wp2_with fail
      refine (cL _ hW1.symm).mono ?_
      rintro e w3 ⟨rfl, hB⟩
      go_wp2
      exact ⟨rfl, rfl, hB⟩
    | ok st j =>
      simp only [OutL] at cL
      go_enter Tryz.func59, Tryz.ntmps59
      go_wp2_with fail
      refine (cL _ hW1.symm).mono ?_
      rintro e w3 ⟨rfl, P3, hj3, E3, W3⟩
      obtain ⟨v, xs, hv, ho, hr⟩ := E3.row
      obtain ⟨A0, C0, rfl⟩ := jrow_val ho
      have cv : w3.cell? ⟨w.heap.size + 1 + 1, 0, none⟩ = some (.slice A0 st.length C0) := hv.cell 0
      have hK := Lib.hid E3.kept
      have hP3 := Lib.hid P3
      have HI := Lib.hid (items_low (B := B) (B' := w.heap.size) (by omega) (VRow.whole ho hr rfl))
      clear hv ho hr E3 P3 W3
      go_wp2
      go_ret
      exact ⟨⟨A0, C0, rfl, HI.out⟩, hP3.out, hK.out⟩
end Go.Proofs.YtdooadalkbghgaaGreatDoor
end
section
namespace Go.Proofs.YtdooadalkbghgaaGreatDoor
open Go.RowKit Go.Maps
def jkD : List ByteArray → DataW Unit
  | [] => .map []
  | x :: r => (jkD r).put (.string x.data.toList) (.lit (.bool true))
theorem jkD_map : ∀ l, IsMap (jkD l)
  | [] => isMap_empty
  | _ :: r => (jkD_map r).put _ _
theorem jk_keyLit (t : List UInt8) : WideAt.IsKeyLit (.string t) := trivial
theorem jkD_yes (t : List UInt8) : ∀ l : List ByteArray, (∃ x ∈ l, x.data.toList = t) → (jkD l).atKey (.string t) (.lit (.bool false)) = .lit (.bool true)
  | [], h => by obtain ⟨x, hx, _⟩ := h; simp at hx
  | y :: r, h => by
    rw [jkD]
    by_cases hy : y.data.toList = t
    · rw [hy, atKey_put_same (jkD_map r) (jk_keyLit _)]
    · rw [atKey_put_other (by simpa using fun e : t = y.data.toList => hy e.symm)]
      refine jkD_yes t r ?_
      obtain ⟨x, hx, he⟩ := h
      rcases List.mem_cons.1 hx with rfl | hx
      · exact absurd he hy
      · exact ⟨x, hx, he⟩
theorem jkD_no (t : List UInt8) : ∀ l : List ByteArray, (¬ ∃ x ∈ l, x.data.toList = t) → (jkD l).atKey (.string t) (.lit (.bool false)) = .lit (.bool false)
  | [], _ => rfl
  | y :: r, h => by
    rw [jkD, atKey_put_other (by simpa using fun e : t = y.data.toList => h ⟨y, List.mem_cons_self .., e.symm⟩)]
    exact jkD_no t r fun ⟨x, hx, he⟩ => h ⟨x, List.mem_cons_of_mem _ hx, he⟩
theorem jslaw : Keyed Tryz.prog 9 := string_keyed Tryz.underlying9
theorem jzero_bool (w : World) : (zeroValue 4).run Tryz.prog w = .ok (.bool false) w := by kernel_rfl
theorem jplain_bool {P : Program} {e : TypeId} (he : P.underlying e = some .bool) {v : Value} {z : DataW Unit × List MemPlace} (h : plainElem P e v = some z) : ∃ b : Bool, v = .bool b ∧ z = (.lit (.bool b), []) := by
  unfold plainElem at h
  rw [he] at h
  cases v <;> simp at h
  exact ⟨_, rfl, h.symm⟩
def JkSet (w : World) (b : Nat) (l : List ByteArray) : Prop := w.ownsMap Tryz.prog 9 (plainElem Tryz.prog 4) b l.length (jkD l)
theorem JkSet.same {w w' : World} {b : Nat} {l : List ByteArray} (h : JkSet w b l) (hb : w'.heap[b]? = w.heap[b]?) : JkSet w' b l := by
  obtain ⟨es, clock, h1, h2⟩ := h
  exact ⟨es, clock, hb.trans h1, h2⟩
theorem JkSet.lt {w : World} {b : Nat} {l : List ByteArray} (h : JkSet w b l) : b < w.heap.size := by
  obtain ⟨es, clock, h1, _⟩ := h
  exact (Array.getElem?_eq_some_iff.1 h1).1
theorem JkSet.look {w : World} {b : Nat} {l : List ByteArray} (h : JkSet w b l) (s : ByteArray) (hs : s.size ≤ maxLen) : (Instr.lookup 100 (.map (some b)) (.string s) false).run Tryz.prog w = .ok (.bool (l.any fun x => decide (x = s))) w := by
  obtain ⟨v, ps, hrun, hv⟩ := World.ownsMap.lookup h jslaw Tryz.underlying100 (jzero_bool w) (plainElem_bool Tryz.underlying4 false) (Go.WideMaps.keyOf_string_mk Tryz.underlying9 hs)
  obtain ⟨c, rfl, hz⟩ := jplain_bool Tryz.underlying4 hv
  simp only [Prod.mk.injEq] at hz
  rw [hrun]
  by_cases hd : ∃ x ∈ l, x = s
  · have h3 := jkD_yes s.data.toList l (by obtain ⟨x, hx, rfl⟩ := hd; exact ⟨x, hx, rfl⟩)
    rw [Lit.bool.inj (DataW.lit.inj (hz.1.symm.trans h3)), show l.any (fun x => decide (x = s)) = true by obtain ⟨x, hx, he⟩ := hd; exact List.any_eq_true.2 ⟨x, hx, decide_eq_true he⟩]
  · have h3 := jkD_no s.data.toList l (fun ⟨x, hx, he⟩ => hd ⟨x, hx, kstr_ext he⟩)
    rw [Lit.bool.inj (DataW.lit.inj (hz.1.symm.trans h3)), show l.any (fun x => decide (x = s)) = false from Bool.eq_false_iff.2 (fun e => hd (by obtain ⟨x, hx, he⟩ := List.any_eq_true.1 e; exact ⟨x, hx, of_decide_eq_true he⟩))]
theorem any_rev (l : List ByteArray) (s : ByteArray) : (l.reverse.any fun x => decide (x = s)) = l.any fun x => decide (x = s) := by rw [List.any_reverse]
structure MeE (wS : World) (b d : Nat) (st : List MemD) (i : Nat) (w : World) : Prop where
  kept : Pb b wS w
  len : st.length ≤ i
  ptr : Bj w wS.heap.size #[.pointer (some ⟨b, 0, none⟩)] 77
  dep : Bj w (wS.heap.size + 1) #[.int .i64 (d : Int)] 3
  fnd : Bj w (wS.heap.size + 4) #[.map (some (wS.heap.size + 3))] 100
  set : JkSet w (wS.heap.size + 3) (st.map MemD.key).reverse
  size : wS.heap.size + 5 ≤ w.heap.size
  row : ∃ v xs, Bj w (wS.heap.size + 2) #[v] 23 ∧ w.ownsRow (wS.heap.size + 5) 38 9 v st.length xs ∧ MRow w (lowx (wS.heap.size + 5) v.ownBlock) st xs
theorem MeE.more {wS : World} {b d : Nat} {st : List MemD} {i i' : Nat} {w w' : World} (h : MeE wS b d st i w) (k : Pb b w w') (hi : i ≤ i') (h1 : b < wS.heap.size) : MeE wS b d st i' w' := by
  obtain ⟨hk, hl, hp, hd, hf, hs, hz, v, xs, hv, ho, hr⟩ := h
  exact ⟨hk.trans' k, by omega, Pj.blk k hp (by omega), Pj.blk k hd (by omega), Pj.blk k hf (by omega), hs.same (k.block _ hs.lt (by omega)), Nat.le_trans hz k.size, v, xs, Pj.blk k hv (by omega), Pj.row k ho (fun x hx => by omega), MRow.go (fun x hx hn => ⟨hn, k.block x hx (fun e => by have := lowx_no hn; omega)⟩) _ _ hr⟩
structure MeG (w0 wS w : World) (b d mb : Nat) (v : Value) (n : Nat) (xs : List Value) (cs : Array Value) (w' : World) : Prop where
  ptr : Bj w' wS.heap.size #[.pointer (some ⟨b, 0, none⟩)] 77
  dep : Bj w' (wS.heap.size + 1) #[.int .i64 (d : Int)] 3
  fnd : Bj w' (wS.heap.size + 4) #[.map (some (wS.heap.size + 3))] 100
  var : Bj w' (wS.heap.size + 2) #[v] 23
  own : w'.ownsRow (wS.heap.size + 5) 38 9 v n xs
  mem : Bj w' mb cs 38
  part : Pj (fun k => k = b ∨ k = wS.heap.size + 3) w w'
  low : Below w0.heap.size w0 w'
section
variable {w0 wS w w' w'' : World} {b d mb n : Nat} {v : Value} {xs : List Value} {cs : Array Value}
theorem MeG.more (h : MeG w0 wS w b d mb v n xs cs w') (k : Pb b w' w'') (h1 : b < wS.heap.size) (h0 : w0.heap.size ≤ b) (hm : wS.heap.size + 5 ≤ mb) : MeG w0 wS w b d mb v n xs cs w'' :=
  ⟨Pj.blk k h.ptr (by omega), Pj.blk k h.dep (by omega), Pj.blk k h.fnd (by omega), Pj.blk k h.var (by omega), Pj.row k h.own (fun x hx => by omega), Pj.blk k h.mem (by omega), h.part.trans k (fun _ _ e => .inl e), pb_below h.low k h0⟩
theorem MeG.set (h : MeG w0 wS w b d mb v n xs cs w') (hm : wS.heap.size + 5 ≤ mb) (hmw : w.heap.size ≤ mb) (h0 : w0.heap.size ≤ mb) (hnv : v.ownBlock ≠ some mb) (o : Nat) (u : Value) : MeG w0 wS w b d mb v n xs (cs.setIfInBounds o u) (w'.setCell ⟨mb, o, none⟩ u) :=
  ⟨h.ptr.own (by show mb ≠ _; omega) u, h.dep.own (by show mb ≠ _; omega) u, h.fnd.own (by show mb ≠ _; omega) u, h.var.own (by show mb ≠ _; omega) u, jrow_same h.own (fun g hg => Below.heap_setCell _ _ _ _ (fun e => hnv (by rw [hg]; exact congrArg some e))), h.mem.set o u, h.part.set (q := ⟨mb, o, none⟩) (.inr hmw) u, h.low.setCell (p := ⟨mb, o, none⟩) h0 u⟩
theorem MeG.grown (h : MeG w0 wS w b d mb v n xs cs w') (hg : w'.grownBy w'' (some (wS.heap.size + 3))) (hm : wS.heap.size + 5 ≤ mb) (h0 : w0.heap.size ≤ wS.heap.size) : MeG w0 wS w b d mb v n xs cs w'' :=
  ⟨(hg.block _ h.ptr.lt (fun e => by injection e with e; omega)).trans h.ptr, (hg.block _ h.dep.lt (fun e => by injection e with e; omega)).trans h.dep, (hg.block _ h.fnd.lt (fun e => by injection e with e; omega)).trans h.fnd, (hg.block _ h.var.lt (fun e => by injection e with e; omega)).trans h.var, jrow_same h.own (fun g e => hg.block g (h.own.lt g e).2 (fun x => by injection x with x; have := (h.own.lt g e).1; omega)), (hg.block _ h.mem.lt (fun e => by injection e with e; omega)).trans h.mem, h.part.grown hg (fun k hk => .inl (.inr (by injection hk with hk; exact hk.symm))), h.low.grown hg h.low.size (fun k hk => by injection hk with hk; omega)⟩
end
theorem MeE.start {w0 wS w w1 : World} {b d : Nat} {st : List MemD} {i : Nat} {v : Value} {xs : List Value} (h : MeE wS b d st i w) (hw : Below w0.heap.size w0 w) (k : Pb b w w1) (h1 : b < wS.heap.size) (h0 : w0.heap.size ≤ b) (hv : Bj w (wS.heap.size + 2) #[v] 23) (ho : w.ownsRow (wS.heap.size + 5) 38 9 v st.length xs) (cs : Array Value) : MeG w0 wS w b d w1.heap.size v st.length xs cs (w1.alloc (.cells cs 38)) := by
  have hz := h.size
  have hz1 := k.size
  have b1 : Below w1.heap.size w1 (w1.alloc (.cells cs 38)) := (Below.refl _ _).alloc (Nat.le_refl _) _
  exact ⟨(Pj.blk k h.ptr (by omega)).more b1, (Pj.blk k h.dep (by omega)).more b1, (Pj.blk k h.fnd (by omega)).more b1, (Pj.blk k hv (by omega)).more b1, (Pj.row k ho (fun x hx => by omega)).alloc _, Bj.new _ _ _, (k.mono (fun _ _ e => .inl e)).alloc _, (pb_below hw k h0).alloc (by have := hw.size; omega) _⟩
theorem MeE.put {w0 wS w w1 W : World} {b d mb : Nat} {st : List MemD} {i j : Nat} {A0 : Option Addr} {C0 : Nat} {xs : List Value} {cs : Array Value} {s : ByteArray} (h : MeE wS b d st i w) (hw : Below w0.heap.size w0 w) (h1 : b < wS.heap.size) (h0 : w0.heap.size ≤ b)
    (hr : MRow w (lowx (wS.heap.size + 5) (Value.slice A0 st.length C0).ownBlock) st xs) (hG : MeG w0 wS w b d mb (.slice A0 st.length C0) st.length xs cs w1) (hmb : wS.heap.size + 5 ≤ mb) (hmw : w.heap.size ≤ mb)
    {n1 : Nat} (hnm : mb < n1) {key : ByteArray} {v : ValD} {v0 v1 v2 v3 v4 v5 v6 : Value} {at' : Int} (hx : ValIs (sans w1 (low n1)) v (.agg #[v0, v1, v2, v3, v4, v5, v6])) (hij : i < j) (hjs : j ≤ s.size) (hP : Psr w1 b s j)
    (hset : JkSet w1 (wS.heap.size + 3) (key :: (st.map MemD.key).reverse))
    {g cap : Nat} (hat : (Value.slice A0 st.length C0).ownBlock = some g ∨ w1.heap.size ≤ g)
    (hz : w1.heap.size ≤ W.heap.size) (hos : W.os = w1.os) (htp : W.tape = w1.tape) (hou : W.output = w1.output)
    (hW : ∀ k, k < w1.heap.size → k ≠ g → k ≠ wS.heap.size + 2 → k ≠ mb → (Value.slice A0 st.length C0).ownBlock ≠ some k → W.heap[k]? = w1.heap[k]?)
    (hWi : Bj W (wS.heap.size + 2) #[.slice (some ⟨g, 0, none⟩) (st.length + 1) cap] 23) (hWo : W.ownsRow (wS.heap.size + 5) 38 9 (.slice (some ⟨g, 0, none⟩) (st.length + 1) cap) (st.length + 1) (xs ++ [.string key, v0, v1, v2, v3, v4, v5, v6, .int .i64 at'])) :
    OutL (MeE wS b d) w0 b s (.returned (.tuple #[])) W (.ok (st ++ [.mk key v at']) j) := by
  have hsz := h.size
  have hpz := hG.part.size
  have hgB : wS.heap.size + 5 ≤ g := by
    rcases hat with e | e
    · exact (hG.own.lt g e).1
    · omega
  have hblt := hP.lt
  have hnl : ∀ k, k < wS.heap.size + 5 → (Value.slice A0 st.length C0).ownBlock ≠ some k := fun k hk e => by have := (hG.own.lt k e).1; omega
  have hwz := hw.size
  have hkz := h.kept.size
  refine ⟨rfl, (hW b hblt (by omega) (by omega) (by omega) (hnl b (by omega))).trans hP, hjs, ⟨⟨hos.trans (hG.part.os.trans h.kept.os), htp.trans (hG.part.tape.trans h.kept.tape), hou.trans (hG.part.output.trans h.kept.output), by omega, fun k hk hn => ?_⟩, by rw [List.length_append, List.length_singleton]; have := h.len; omega, ?_, ?_, ?_, ?_, by omega, _, _, hWi, by rw [List.length_append, List.length_singleton]; exact hWo, ?_⟩, ⟨hos.trans hG.low.os, htp.trans hG.low.tape, hou.trans hG.low.output, by have := hG.low.size; omega, fun k hk => ?_⟩⟩
  · exact (hW k (by omega) (by omega) (by omega) (by omega) (hnl k (by omega))).trans ((hG.part.block k (by omega) (by omega)).trans (h.kept.block k hk hn))
  · have := hG.ptr.lt
    exact (hW _ this (by omega) (by omega) (by omega) (hnl _ (by omega))).trans hG.ptr
  · have := hG.dep.lt
    exact (hW _ this (by omega) (by omega) (by omega) (hnl _ (by omega))).trans hG.dep
  · have := hG.fnd.lt
    exact (hW _ this (by omega) (by omega) (by omega) (hnl _ (by omega))).trans hG.fnd
  · rw [List.map_append, List.reverse_append]
    exact hset.same (hW _ hset.lt (by omega) (by omega) (by omega) (hnl _ (by omega)))
  · refine MRow.snoc (k := .mk key v at') (hx.go (fun k hk hn => ?_)) st xs (MRow.go (fun k hk hn => ?_) st xs hr)
    · have hkn := low_no hn
      have hkv : (Value.slice A0 st.length C0).ownBlock ≠ some k := fun e => by
        have h9 := (h.row)
        obtain ⟨v', xs', hv', ho', _⟩ := h9
        have h10 := hG.part.block _ hv'.lt (by omega)
        have h11 := hG.var
        have h12 : w1.heap[wS.heap.size + 2]? = some (.cells #[v'] 23 (0, 0)) := h10.trans hv'
        have h13 : w1.heap[wS.heap.size + 2]? = some (.cells #[.slice A0 st.length C0] 23 (0, 0)) := h11
        rw [h12] at h13
        injection h13 with h13
        injection h13 with h13 _ _
        injection h13 with h13
        injection h13 with h13 _
        subst h13
        have := (ho'.lt k e).2
        omega
      have hkg : k ≠ g := by
        intro e
        subst e
        rcases hat with e | e
        · exact hkv e
        · omega
      exact ⟨lowx_ok (by omega) (fun e => hkg (by injection e with e; exact e.symm)), hW k hk hkg (by omega) (by omega) hkv⟩
    · obtain ⟨hkB, hkv⟩ := lowx_no hn
      have hkg : k ≠ g := by
        intro e
        subst e
        rcases hat with e | e
        · exact hkv e
        · omega
      have hkm : k ≠ mb := by omega
      exact ⟨lowx_ok hkB (fun e => hkg (by injection e with e; exact e.symm)), (hW k (by omega) hkg (by omega) hkm hkv).trans (hG.part.block k hk (by omega))⟩
  · exact (hW k (by have := hG.low.size; omega) (by omega) (by omega) (by omega) (hnl k (by omega))).trans (hG.low.block k hk)
theorem parJ_len (a : Int) : ∀ (n : Nat) (l : List UInt8) (i : Int) (out : List UInt8), l.length ≤ n → (parJ a i l out).1.length ≤ out.length + 4 * l.length
  | 0, l, i, out, hn => by
    obtain rfl : l = [] := List.length_eq_zero_iff.1 (by omega)
    rw [parJ_nil]
    simp
  | n + 1, l, i, out, hn => by
    by_cases hl : l = []
    · subst hl
      rw [parJ_nil]
      simp
    have hpos := List.length_pos_iff.2 hl
    rw [parJ_eq a i l out hl]
    split
    · simp only
      omega
    split
    · split
      · simp
      split
      · simp
      · rename_i h2 h3
        have hk := (seqL_ok l (by omega)).1
        have := parJ_len a n (l.drop (seqL l).2) (i + (seqL l).2) (out ++ eb (seqL l).1) (by rw [List.length_drop]; omega)
        have h4 := eb_len (seqL l).1
        rw [List.length_drop, List.length_append] at this
        omega
    split
    · simp
    split
    · simp
    · have hk := (decL_ok l hl).1
      have := parJ_len a n (l.drop (decL l).2) (i + (decL l).2) (out ++ eb ((decL l).1 : Nat)) (by rw [List.length_drop]; omega)
      have h4 := eb_len ((decL l).1 : Nat)
      rw [List.length_drop, List.length_append] at this
      omega
theorem parP_len (l : List UInt8) (a : Int) : (parP l a).1.length ≤ 4 * l.length := by
  unfold parP
  split
  · have := parJ_len a _ (l.drop (a.toNat + 1)) (a + 1) [] (Nat.le_refl _)
    rw [List.length_drop] at this
    simp only [List.length_nil] at this
    omega
  · simp
theorem kA_bad {l : List UInt8} {u : Nat} {keys : List ByteArray} {K : List UInt8} {t x : Int} (hu : u < l.length) (h : parP l u = (K, t, x)) (hx : x ≠ 0) : kA l u keys = .err t x := by
  rw [kA_eq l u keys (by omega), if_neg (by omega)]
  by_cases h34 : l.getD u 0 = 34
  · rw [if_neg (fun e => e h34), h, if_pos hx]
  · rw [if_pos h34]
    unfold parP at h
    rw [if_neg (fun e => h34 (by simpa using e.2.2))] at h
    injection h with h1 h2
    injection h2 with h2 h3
    rw [← h2, ← h3]
theorem kA_good {l : List UInt8} {u : Nat} {keys : List ByteArray} {K : List UInt8} {t : Int} (hu : u < l.length) (h : parP l u = (K, t, 0)) : ∃ n : Nat, t = (n : Int) ∧ u < n ∧ n ≤ l.length ∧ kA l u keys = if keys.any (fun x => decide (x = ofBytes K)) = true then .err u 10
    else if l.length ≤ spP l n then .err l.length 8
    else if l.getD (spP l n) 0 ≠ 58 then .err (spP l n : Nat) 7
    else .ok K (spP l n + 1) := by
  have h34 : l.getD u 0 = 34 := by
    rcases Decidable.em (l.getD u 0 = 34) with e | e
    · exact e
    · exfalso
      unfold parP at h
      rw [if_neg (fun x => e (by simpa using x.2.2))] at h
      injection h with h1 h2
      injection h2 with h2 h3
      cases h3
  have hp : parP l (u : Int) = parJ u (u + 1) ((l.drop u).drop 1) [] := by
    unfold parP
    rw [if_pos ⟨by omega, by omega, by rw [Int.toNat_natCast]; exact h34⟩, Int.toNat_natCast, List.drop_drop]
  have hbd := parJ_end u _ ((l.drop u).drop 1) (u + 1) [] (Nat.le_refl _) (by rw [← hp, h])
  rw [← hp, h] at hbd
  simp only [List.length_drop] at hbd
  obtain ⟨n, rfl⟩ := Int.eq_ofNat_of_zero_le (show 0 ≤ t by omega)
  refine ⟨n, rfl, by omega, by omega, ?_⟩
  rw [kA_eq l u keys (by omega), if_neg (by omega), if_neg (show ¬ l.getD u 0 ≠ 34 from fun e => e h34), h]
  simp only [Int.toNat_natCast]
  rw [if_neg (show ¬ (0 : Int) ≠ 0 from fun e => e rfl)]
end Go.Proofs.YtdooadalkbghgaaGreatDoor
end
