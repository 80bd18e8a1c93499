/- Packed from the texts WrL WrM. -/
import Derived.Test.YtppmoeidgefkpaaDoorVkP
section
namespace Go.Proofs.YtppmoeidgefkpaaDoor
open Go.RowKit
def putF (ob : Nat) : Value := .func (.func 20) #[] #[.pointer (some ⟨ob, 0, none⟩)]
def wrtF (qb wb : Nat) : Value := .func (.func 22) #[] #[.pointer (some ⟨qb, 0, none⟩), .pointer (some ⟨wb, 0, none⟩)]
theorem xw_puts (ob : Nat) (l : List UInt8) (parts : List ByteArray) (w : World) (hB : Bld ob ob l w) (hlen : l.length + (catB parts).length ≤ 100000000) (hn : parts.length ≤ 1000) (hz : ob < w.heap.size) :
    Calls Tryd.prog 20 #[.slice (some ⟨w.heap.size, 0, none⟩) parts.length parts.length, .pointer (some ⟨ob, 0, none⟩)] (w.alloc (.cells (strVs parts) 9)) fun e w' => e = .returned (.tuple #[]) ∧ Bld ob ob (l ++ catB parts) w' ∧ Wrt ob w w' := by
  have b : Below w.heap.size w (w.alloc (.cells (strVs parts) 9)) := (Below.refl _ _).alloc (Nat.le_refl _) _
  refine (xw_put ob w.heap.size l parts parts.length _ (hB.below b) (Blk.new w _ _) (by omega) hlen hn (by rw [World.size_alloc]; omega)).mono ?_
  rintro e w' ⟨h1, h2, h3⟩
  exact ⟨h1, h2, (Wrt.of b (by omega)).trans h3⟩
theorem xw_put1 (ob : Nat) (l : List UInt8) (a : ByteArray) (w : World) (hB : Bld ob ob l w) (hlen : l.length + a.size ≤ 100000000) (hz : ob < w.heap.size) :
    Calls Tryd.prog 20 #[.slice (some ⟨w.heap.size, 0, none⟩) 1 1, .pointer (some ⟨ob, 0, none⟩)] (w.alloc (.cells #[.string a] 9)) fun e w' => e = .returned (.tuple #[]) ∧ Bld ob ob (l ++ a.data.toList) w' ∧ Wrt ob w w' := by
  have := xw_puts ob l [a] w hB (by simp only [catB, List.length_append, List.length_nil, blen]; omega) (by simp) hz
  simp only [catB, List.append_nil] at this
  exact this
theorem xw_put2 (ob : Nat) (l : List UInt8) (a b : ByteArray) (w : World) (hB : Bld ob ob l w) (hlen : l.length + (a.size + b.size) ≤ 100000000) (hz : ob < w.heap.size) :
    Calls Tryd.prog 20 #[.slice (some ⟨w.heap.size, 0, none⟩) 2 2, .pointer (some ⟨ob, 0, none⟩)] (w.alloc (.cells #[.string a, .string b] 9)) fun e w' => e = .returned (.tuple #[]) ∧ Bld ob ob (l ++ (a.data.toList ++ b.data.toList)) w' ∧ Wrt ob w w' := by
  have := xw_puts ob l [a, b] w hB (by simp only [catB, List.length_append, List.length_nil, blen]; omega) (by simp) hz
  simp only [catB, List.append_nil] at this
  exact this
theorem xw_put3 (ob : Nat) (l : List UInt8) (a b c : ByteArray) (w : World) (hB : Bld ob ob l w) (hlen : l.length + (a.size + b.size + c.size) ≤ 100000000) (hz : ob < w.heap.size) :
    Calls Tryd.prog 20 #[.slice (some ⟨w.heap.size, 0, none⟩) 3 3, .pointer (some ⟨ob, 0, none⟩)] (w.alloc (.cells #[.string a, .string b, .string c] 9)) fun e w' => e = .returned (.tuple #[]) ∧ Bld ob ob (l ++ (a.data.toList ++ (b.data.toList ++ c.data.toList))) w' ∧ Wrt ob w w' := by
  have := xw_puts ob l [a, b, c] w hB (by simp only [catB, List.length_append, List.length_nil, blen]; omega) (by simp) hz
  simp only [catB, List.append_nil] at this
  exact this
theorem xw_put5 (ob : Nat) (l : List UInt8) (a b c d f : ByteArray) (w : World) (hB : Bld ob ob l w) (hlen : l.length + (a.size + b.size + c.size + d.size + f.size) ≤ 100000000) (hz : ob < w.heap.size) :
    Calls Tryd.prog 20 #[.slice (some ⟨w.heap.size, 0, none⟩) 5 5, .pointer (some ⟨ob, 0, none⟩)] (w.alloc (.cells #[.string a, .string b, .string c, .string d, .string f] 9)) fun e w' => e = .returned (.tuple #[]) ∧ Bld ob ob (l ++ (a.data.toList ++ (b.data.toList ++ (c.data.toList ++ (d.data.toList ++ f.data.toList))))) w' ∧ Wrt ob w w' := by
  have := xw_puts ob l [a, b, c, d, f] w hB (by simp only [catB, List.length_append, List.length_nil, blen]; omega) (by simp) hz
  simp only [catB, List.append_nil] at this
  exact this
structure WS (ob qb wb hs : Nat) (cs : Array Value) (W0 wa : World) (l : List UInt8) (w : World) : Prop where
  bld : Bld ob ob l w
  put : Blk w qb #[putF ob] 56
  wrt : Blk w wb #[wrtF qb wb] 57
  nod : Blk w hs cs 25
  base : Below W0.heap.size W0 w
  chg : Wrt ob wa w
theorem WS.step {ob qb wb hs : Nat} {cs : Array Value} {W0 wa : World} {l l' : List UInt8} {w w' : World} (h : WS ob qb wb hs cs W0 wa l w) (hw : Wrt ob w w') (hb : Bld ob ob l' w') (hq : qb ≠ ob) (hwb : wb ≠ ob) (hh : hs ≠ ob) (hz : W0.heap.size ≤ ob) : WS ob qb wb hs cs W0 wa l' w' :=
  ⟨hb, hw.blk h.put hq (by decide), hw.blk h.wrt hwb (by decide), hw.blk h.nod hh (by decide), h.base.trans (hw.below.mono hz), h.chg.trans hw⟩
theorem WS.more {ob qb wb hs : Nat} {cs : Array Value} {W0 wa : World} {l : List UInt8} {w w' : World} (h : WS ob qb wb hs cs W0 wa l w) (hb : Below w.heap.size w w') (hz : ob ≤ w.heap.size) : WS ob qb wb hs cs W0 wa l w' :=
  ⟨h.bld.below hb, h.put.more hb, h.wrt.more hb, h.nod.more hb, h.base.trans (hb.mono h.base.size), h.chg.trans (Wrt.of hb hz)⟩
def WriteC (ob qb wb f : Nat) : Prop := ∀ (n : NodeD) (v : Value) (W0 w : World) (l : List UInt8), n.cnt ≤ f → n.mass ≤ 1000000 → NodeIs W0 n v → W0.heap.size ≤ ob → Below W0.heap.size W0 w → Bld ob ob l w → Blk w qb #[putF ob] 56 → Blk w wb #[wrtF qb wb] 57 → l.length + n.form.length ≤ 50000000 →
  Calls Tryd.prog 22 #[v, .pointer (some ⟨qb, 0, none⟩), .pointer (some ⟨wb, 0, none⟩)] w fun e w' => e = .returned (.tuple #[]) ∧ Bld ob ob (l ++ n.form) w' ∧ Wrt ob w w'
set_option maxRecDepth 100000 in
set_option maxHeartbeats 16000000 in
theorem xw_data (ob qb wb : Nat) (hq : qb ≠ ob) (n : NodeD) (v : Value) (W0 w : World) (l : List UInt8) (hk1 : n.kind = 1) (hm : n.mass ≤ 1000000) (hn : NodeIs W0 n v) (hB : Bld ob ob l w) (hQ : Blk w qb #[putF ob] 56) (hob : ob < w.heap.size) (hl : l.length + n.form.length ≤ 50000000) :
    Calls Tryd.prog 22 #[v, .pointer (some ⟨qb, 0, none⟩), .pointer (some ⟨wb, 0, none⟩)] w fun e w' => e = .returned (.tuple #[]) ∧ Bld ob ob (l ++ n.form) w' ∧ Wrt ob w w' := by
  have hme := mass_eq n
  have hfe : n.form = escP false n.tx.data.toList := by rw [form_eq, if_pos hk1]
  obtain ⟨pa, ca, pk, ck, rfl, -, -⟩ := (node_is W0 n v).1 hn
  obtain ⟨W1, hW1⟩ : ∃ W1, W1 = w.alloc (.cells #[.int .i64 n.kind, .string n.sp, .string n.nm, .slice pa n.al.length ca, .slice pk n.kids.length ck, .string n.tx, .int .i64 n.at'] 25) := ⟨_, rfl⟩
  have b1 : Below w.heap.size w W1 := by rw [hW1]; exact (Below.refl _ _).alloc (Nat.le_refl _) _
  have hz1 : w.heap.size < W1.heap.size := by rw [hW1]; simp
  have PN : Blk W1 w.heap.size #[.int .i64 n.kind, .string n.sp, .string n.nm, .slice pa n.al.length ca, .slice pk n.kids.length ck, .string n.tx, .int .i64 n.at'] 25 := by rw [hW1]; exact Blk.new w _ _
  have PQ := hQ.more b1
  have p0 : W1.cell? ⟨w.heap.size, 0, none⟩ = some (.int .i64 1) := by rw [← hk1]; exact PN.cell 0
  have p5 : W1.cell? ⟨w.heap.size, 5, none⟩ = some (.string n.tx) := PN.cell 5
  have pq : W1.cell? ⟨qb, 0, none⟩ = some (putF ob) := PQ.cell 0
  have cT := xw_escText n.tx W1.drew (by omega)
  rw [hfe] at hl ⊢
  have hB1 := hB.below b1
  have HB1 := Lib.hid hB1
  have Hb1 := Lib.hid b1
  have hls : l.length + (ofBytes (escP false n.tx.data.toList)).size ≤ 50000000 := by rw [ofBytes_size]; exact hl
  have hlist : (ofBytes (escP false n.tx.data.toList)).data.toList = escP false n.tx.data.toList := ofBytes_list _
  rw [← hlist]
  generalize ofBytes (escP false n.tx.data.toList) = E at *
  have hSB : ∀ w', Below W1.heap.size W1 w' → (w'.cell? ⟨qb, 0, none⟩ = some (putF ob) ∧ w'.cell? ⟨w.heap.size, 5, none⟩ = some (.string n.tx)) := fun w' hb => ⟨(hb.cell (kblock_lt pq)).trans pq, (hb.cell (kblock_lt p5)).trans p5⟩
  have hS0 := hSB W1.drew (Below.drew (Below.refl _ _))
  have HSB := Lib.hid hSB
  have hSW : ∀ w8 w9, Below W1.heap.size W1 w8 → Wrt ob w8 w9 → (w9.cell? ⟨qb, 0, none⟩ = some (putF ob) ∧ w9.cell? ⟨w.heap.size, 5, none⟩ = some (.string n.tx)) := fun w8 w9 hb hk => ⟨(hk.blk (PQ.more hb) hq (by decide)).cell 0, (hk.blk (PN.more hb) (by omega) (by decide)).cell 5⟩
  have HSW := Lib.hid hSW
  rw [hk1] at hW1 ⊢
  clear hn hfe hme hm hl hlist hQ hB hSB hSW PN PQ hB1 b1 hk1
  go_enter Tryd.func22, Tryd.ntmps22
  go_upto_region 1 with fail
  simp only [← hW1]
  clear hW1
  go_wp2
  unfold putF at *
  go_region_held3 (fun w' => w'.cell? ⟨qb, 0, none⟩ = some (.func (.func 20) #[] #[.pointer (some ⟨ob, 0, none⟩)]) ∧ w'.cell? ⟨w.heap.size, 5, none⟩ = some (.string n.tx)) (first | with_reducible exact hS9 | with_reducible exact hSA _ | with_reducible exact hS8 | with_reducible exact hS0) (first
    | (go_at_call 20; refine (cP8).mono ?_; rintro e w9 ⟨rfl, B9, k9⟩; have hS9 := HSW.out w8 w9 HB8.out k9)
    | (go_at_call 23; refine cT.mono ?_; rintro e w8 ⟨rfl, b8⟩; have B8 := (Below.drew (Below.refl W1.heap.size W1)).trans b8; have HB8 := Lib.hid B8; have hS8 := HSB.out w8 B8; have hSA := fun o => HSB.out (w8.alloc o) (B8.alloc B8.size o); have cP8 := xw_put1 ob l E w8 (HB1.out.below B8) (by omega) (by have := B8.size; omega); clear B8 b8))
  all_goals
    have HB9 := Lib.hid B9
    have HK9 := Lib.hid ((Wrt.of Hb1.out (by omega)).trans ((Wrt.of HB8.out (by omega)).trans k9))
    clear hS0 hS8 hSA hS9 cP8 B9 k9 HSW HSB cT p0 p5 pq
    go_wp2
    exact bodyPost_ret (v := .tuple #[]) (by simp [results, Tryd.results22, go_sem]) rfl ⟨rfl, HB9.out, HK9.out⟩
set_option maxRecDepth 100000 in
set_option maxHeartbeats 32000000 in
theorem xw_element (ob qb wb f : Nat) (hq : qb ≠ ob) (hwb : wb ≠ ob) (IH : WriteC ob qb wb f) (n : NodeD) (v : Value) (W0 w : World) (l : List UInt8) (hk1 : ¬ n.kind = 1) (hf : n.cnt ≤ f + 1) (hm : n.mass ≤ 1000000) (hn : NodeIs W0 n v) (hz : W0.heap.size ≤ ob) (hW : Below W0.heap.size W0 w) (hB : Bld ob ob l w) (hQ : Blk w qb #[putF ob] 56) (hR : Blk w wb #[wrtF qb wb] 57) (hob : ob < w.heap.size) (hl : l.length + n.form.length ≤ 50000000) :
    Calls Tryd.prog 22 #[v, .pointer (some ⟨qb, 0, none⟩), .pointer (some ⟨wb, 0, none⟩)] w fun e w' => e = .returned (.tuple #[]) ∧ Bld ob ob (l ++ n.form) w' ∧ Wrt ob w w' := by
  have hme := mass_eq n
  have hml := masses_len n.kids
  have hsl := sum_len n.al
  have hfe := form_eq n
  rw [if_neg hk1] at hfe
  have hkm : ∀ k ∈ n.kids, k.cnt ≤ f ∧ k.mass ≤ 1000000 := fun k hk => by
    have h1 := cnt_kid n k hk
    have h2 := mass_kid n k hk
    omega
  have ham : ∀ x ∈ n.al, x.nm.size ≤ 1000000 ∧ x.va.size ≤ 1000000 := fun x hx => by
    have := sum_mem _ x hx
    omega
  have HAM := Lib.hid ham
  have HIH := Lib.hid (fun (k : NodeD) (hk : k ∈ n.kids) => fun v W0 w l => IH k v W0 w l (hkm k hk).1 (hkm k hk).2)
  obtain ⟨pa, ca, pk, ck, rfl, hA, hK⟩ := (node_is W0 n v).1 hn
  have hal : (n.al.length : Int) ≤ 1000000 := by omega
  have hkl : (n.kids.length : Int) ≤ 1000000 := by omega
  have hnl : n.nm.size ≤ 1000000 := by omega
  have hkb : (n.kind == 1) = false := by simpa using hk1
  obtain ⟨W1, hW1⟩ : ∃ W1, W1 = w.alloc (.cells #[.int .i64 n.kind, .string n.sp, .string n.nm, .slice pa n.al.length ca, .slice pk n.kids.length ck, .string n.tx, .int .i64 n.at'] 25) := ⟨_, rfl⟩
  have b1 : Below w.heap.size w W1 := by rw [hW1]; exact (Below.refl _ _).alloc (Nat.le_refl _) _
  have hz1 : w.heap.size < W1.heap.size := by rw [hW1]; simp
  have HS1 : WS ob qb wb w.heap.size #[.int .i64 n.kind, .string n.sp, .string n.nm, .slice pa n.al.length ca, .slice pk n.kids.length ck, .string n.tx, .int .i64 n.at'] W0 w l W1 := by
    refine ⟨hB.below b1, hQ.more b1, hR.more b1, by rw [hW1]; exact Blk.new w _ _, hW.trans (b1.mono hW.size), Wrt.of b1 (by omega)⟩
  clear hn hme hml hsl hkm ham hf IH hQ hR hB hW b1 hm
  generalize n.form = F at *
  generalize n.kind = kd at *
  generalize n.sp = s1 at *
  generalize n.nm = s2 at *
  generalize n.tx = s3 at *
  generalize n.al = al at *
  generalize n.kids = kids at *
  generalize n.at' = at0 at *
  obtain ⟨TL, hTL⟩ : ∃ TL, (if kids.length = 0 then [47, 62] else 62 :: (forms kids ++ (60 :: 47 :: (s2.data.toList ++ [62]))) : List UInt8) = TL := ⟨_, rfl⟩
  rw [hTL] at hfe
  have HTL := Lib.hid hTL
  have HL := Lib.hid hl
  have HF := Lib.hid (show l ++ F = (l ++ ((⟨#[60]⟩ : ByteArray).data.toList ++ s2.data.toList)) ++ (attrsF al ++ TL) by rw [hfe]; simp)
  have HA := Lib.hid hA
  have HK := Lib.hid hK
  have p0 : W1.cell? ⟨w.heap.size, 0, none⟩ = some (.int .i64 kd) := HS1.nod.cell 0
  have p2 : W1.cell? ⟨w.heap.size, 2, none⟩ = some (.string s2) := HS1.nod.cell 2
  have pq : W1.cell? ⟨qb, 0, none⟩ = some (putF ob) := HS1.put.cell 0
  have hne : w.heap.size ≠ ob := by omega
  have cP := xw_put2 ob l ⟨#[60]⟩ s2 W1 HS1.bld (by
    have h1 := congrArg List.length HF.out
    simp only [List.length_append, blen] at h1
    have h3 : ([60] : List UInt8).length = 1 := rfl
    have h4 : (⟨#[60]⟩ : ByteArray).size = 1 := rfl
    omega) (by omega)
  have HS := Lib.hid HS1
  unfold putF at pq
  clear hfe hTL hl HS1 hA hK hk1
  go_enter Tryd.func22, Tryd.ntmps22
  go_upto_region 1 with fail
  simp only [← hW1]
  clear hW1
  go_wp2_with fail
  refine cP.mono ?_
  rintro e w2 ⟨rfl, B2, k2⟩
  have S2 := HS.out.step k2 B2 hq hwb hne hz
  have z2 := S2.nod.lt
  have p3 : w2.cell? ⟨w.heap.size, 3, none⟩ = some (.slice pa al.length ca) := S2.nod.cell 3
  have HS2 := Lib.hid S2
  clear S2 B2 k2 cP p0 p2 pq HS
  go_wp2
  clear p3
  go_loopw [25] (fun q wr => ∃ (i : Nat) (acc : List UInt8), i ≤ al.length ∧ q = .int .i64 i ∧ l ++ F = acc ++ (attrsF (al.drop i) ++ TL) ∧ WS ob qb wb w.heap.size #[.int .i64 kd, .string s1, .string s2, .slice pa al.length ca, .slice pk kids.length ck, .string s3, .int .i64 at0] W0 w acc wr) (fun q _ => al.length - (intOf q).toNat)
  case atStart => exact ⟨0, _, Nat.zero_le _, rfl, HF.out, HS2.out⟩
  case round =>
    clear HS2 z2
    obtain ⟨i, acc, hi, rfl, hrel, hS⟩ := hrel
    obtain ⟨wo, rfl⟩ : ∃ wo, wo = wr := ⟨_, rfl⟩
    have hzo := hS.nod.lt
    have hacl : acc.length + (attrsF (al.drop i)).length + TL.length ≤ 50000000 := by
      have h1 := congrArg List.length hrel
      have := HL.out
      simp only [List.length_append] at h1
      omega
    by_cases hlt : i < al.length
    case pos =>
      have hiz : (i : Int) < (al.length : Int) := by omega
      rw [List.drop_eq_getElem_cons hlt, attrsF_cons] at hrel hacl
      obtain ⟨a, rfl, a0, a1, a2, a3⟩ := HA.out.below hS.base i hlt
      have hxm := HAM.out _ (List.getElem_mem hlt)
      obtain ⟨x, hx⟩ : ∃ x, al[i] = x := ⟨_, rfl⟩
      rw [hx] at a0 a1 a2 a3 hrel hxm hacl
      obtain ⟨xs, xn, xv, xa⟩ := x
      simp only at a0 a1 a2 a3 hrel hxm
      obtain ⟨cc, hcc⟩ : ∃ c, a.add (i * 4) = c := ⟨_, rfl⟩
      rw [hcc] at a0 a1 a2 a3
      simp only [Addr.add, Nat.reduceEqDiff, ↓reduceIte] at a1 a2 a3
      obtain ⟨W5, hW5⟩ : ∃ W5, W5 = wo.alloc (.cells #[.string xs, .string xn, .string xv, .int .i64 xa] 37) := ⟨_, rfl⟩
      have b5 : Below wo.heap.size wo W5 := by rw [hW5]; exact (Below.refl _ _).alloc (Nat.le_refl _) _
      have hz5 : wo.heap.size < W5.heap.size := by rw [hW5]; simp
      have PX : Blk W5 wo.heap.size #[.string xs, .string xn, .string xv, .int .i64 xa] 37 := by rw [hW5]; exact Blk.new wo _ _
      have S5 := hS.more b5 (by omega)
      have x1 : W5.cell? ⟨wo.heap.size, 1, none⟩ = some (.string xn) := PX.cell 1
      have x2 : W5.cell? ⟨wo.heap.size, 2, none⟩ = some (.string xv) := PX.cell 2
      have pq : W5.cell? ⟨qb, 0, none⟩ = some (putF ob) := S5.put.cell 0
      have cE := xw_escAttr xv W5.drew hxm.2
      have hel := escP_len true xv.data.toList
      rw [blen] at hel
      have hel2 : (ofBytes (escP true xv.data.toList)).size ≤ 6000000 := by rw [ofBytes_size]; omega
      have hab : attrF ⟨xs, xn, xv, xa⟩ = (⟨#[32]⟩ : ByteArray).data.toList ++ (xn.data.toList ++ ((⟨#[61, 34]⟩ : ByteArray).data.toList ++ ((ofBytes (escP true xv.data.toList)).data.toList ++ (⟨#[34]⟩ : ByteArray).data.toList))) := by
        rw [ofBytes_list]; unfold attrF; simp
      rw [hab] at hrel
      have hnx := hxm.1
      have hc1 : (⟨#[32]⟩ : ByteArray).size = 1 := rfl
      have hc2 : (⟨#[61, 34]⟩ : ByteArray).size = 2 := rfl
      have hc3 : (⟨#[34]⟩ : ByteArray).size = 1 := rfl
      generalize ofBytes (escP true xv.data.toList) = E at *
      have HR := Lib.hid (show l ++ F = (acc ++ ((⟨#[32]⟩ : ByteArray).data.toList ++ (xn.data.toList ++ ((⟨#[61, 34]⟩ : ByteArray).data.toList ++ (E.data.toList ++ (⟨#[34]⟩ : ByteArray).data.toList))))) ++ (attrsF (al.drop (i + 1)) ++ TL) by rw [hrel]; simp only [List.append_assoc])
      have hSB : ∀ w', Below W5.heap.size W5 w' → (w'.cell? ⟨qb, 0, none⟩ = some (putF ob) ∧ w'.cell? ⟨wo.heap.size, 1, none⟩ = some (.string xn) ∧ w'.cell? ⟨wo.heap.size, 2, none⟩ = some (.string xv)) := fun w' hb => ⟨(hb.cell (kblock_lt pq)).trans pq, (hb.cell (kblock_lt x1)).trans x1, (hb.cell (kblock_lt x2)).trans x2⟩
      have hS0 := hSB W5.drew (Below.drew (Below.refl _ _))
      have HSB := Lib.hid hSB
      have hSW : ∀ w8 w9, Below W5.heap.size W5 w8 → Wrt ob w8 w9 → (w9.cell? ⟨qb, 0, none⟩ = some (putF ob) ∧ w9.cell? ⟨wo.heap.size, 1, none⟩ = some (.string xn) ∧ w9.cell? ⟨wo.heap.size, 2, none⟩ = some (.string xv)) := fun w8 w9 hb hk => ⟨(hk.blk (S5.put.more hb) hq (by decide)).cell 0, (hk.blk (PX.more hb) (by omega) (by decide)).cell 1, (hk.blk (PX.more hb) (by omega) (by decide)).cell 2⟩
      have HSW := Lib.hid hSW
      have HS5 := Lib.hid S5
      unfold putF at pq hS0 HSB HSW
      clear hSB hSW hab hel hrel hxm hx hS S5 b5 PX
      go_upto_region 7 with fail
      simp only [← hW5]
      clear hW5
      go_region_held3 (fun w' => w'.cell? ⟨qb, 0, none⟩ = some (.func (.func 20) #[] #[.pointer (some ⟨ob, 0, none⟩)]) ∧ w'.cell? ⟨wo.heap.size, 1, none⟩ = some (.string xn) ∧ w'.cell? ⟨wo.heap.size, 2, none⟩ = some (.string xv)) (first | with_reducible exact hS9 | with_reducible exact hSA _ | with_reducible exact hS8 | with_reducible exact hS0) (first
        | (go_at_call 20; refine (cP8).mono ?_; rintro e w9 ⟨rfl, B9, k9⟩; have hS9 := HSW.out w8 w9 HB8.out k9)
        | (go_at_call 24; refine cE.mono ?_; rintro e w8 ⟨rfl, b8⟩; have B8 := (Below.drew (Below.refl W5.heap.size W5)).trans b8; have HB8 := Lib.hid B8; have hS8 := HSB.out w8 B8; have hSA := fun o => HSB.out (w8.alloc o) (B8.alloc B8.size o); have cP8 := xw_put5 ob acc ⟨#[32]⟩ xn ⟨#[61, 34]⟩ E ⟨#[34]⟩ w8 (HS5.out.bld.below B8) (by omega) (by have := B8.size; omega); clear B8 b8))
      all_goals
        have HN := Lib.hid ((HS5.out.more HB8.out (by omega)).step k9 B9 hq hwb hne hz)
        clear hS0 hS8 hSA hS9 cP8 B9 k9 HSW HSB cE x1 x2 pq a0 a1 a2 a3
        go_wp2
        go_roundw
        case rel => exact ⟨i + 1, _, by omega, by go_num, HR.out, HN.out⟩
        case measure => simp [intOf]; omega
    case neg =>
      obtain rfl : i = al.length := by omega
      have hiz : ¬ (al.length : Int) < (al.length : Int) := by omega
      rw [List.drop_eq_nil_of_le (Nat.le_refl _)] at hrel hacl
      replace hrel : l ++ F = acc ++ TL := by rw [hrel]; simp [attrsF]
      have p4 : wo.cell? ⟨w.heap.size, 4, none⟩ = some (.slice pk kids.length ck) := hS.nod.cell 4
      have pq : wo.cell? ⟨qb, 0, none⟩ = some (putF ob) := hS.put.cell 0
      unfold putF at pq
      have hac2 : acc.length ≤ 50000000 := by omega
      have HS3 := Lib.hid hS
      by_cases hk0 : kids.length = 0
      · have HR := Lib.hid (show l ++ F = acc ++ (⟨#[47, 62]⟩ : ByteArray).data.toList by rw [hrel, ← HTL.out, if_pos hk0])
        have c1 := xw_put1 ob acc ⟨#[47, 62]⟩ wo hS.bld (by have : (⟨#[47, 62]⟩ : ByteArray).size = 2 := rfl; omega) (by omega)
        have hkz : ((kids.length : Int) == 0) = true := by rw [hk0]; rfl
        rw [hk0] at p4
        clear hrel hS hk0 hkz
        go_wp2_with fail
        refine c1.mono ?_
        rintro e w3 ⟨rfl, B3, k3⟩
        have HB3 := Lib.hid (show Bld ob ob (l ++ F) w3 by rw [HR.out]; exact B3)
        have HK3 := Lib.hid (HS3.out.chg.trans k3)
        clear B3 k3
        go_wp2
        exact bodyPost_ret (v := .tuple #[]) (by simp [results, Tryd.results22, go_sem]) rfl ⟨rfl, HB3.out, HK3.out⟩
      have hkz : ((kids.length : Int) == 0) = false := beq_eq_false_iff_ne.2 (by omega)
      have HR := Lib.hid (show l ++ F = (acc ++ (⟨#[62]⟩ : ByteArray).data.toList) ++ (forms kids ++ (60 :: 47 :: (s2.data.toList ++ [62]))) by rw [hrel, ← HTL.out, if_neg hk0]; simp)
      have c1 := xw_put1 ob acc ⟨#[62]⟩ wo hS.bld (by have : (⟨#[62]⟩ : ByteArray).size = 1 := rfl; omega) (by omega)
      clear hrel hS hk0
      go_wp2_with fail
      refine c1.mono ?_
      rintro e w3 ⟨rfl, B3, k3⟩
      have S4 := HS3.out.step k3 B3 hq hwb hne hz
      have p4' : w3.cell? ⟨w.heap.size, 4, none⟩ = some (.slice pk kids.length ck) := S4.nod.cell 4
      have HS4 := Lib.hid S4
      clear S4 B3 k3 p4 pq hkz c1 HS3 hacl hac2 hzo
      go_wp2
      clear p4'
      go_loopw [51] (fun q wr => ∃ (j : Nat) (acc : List UInt8), j ≤ kids.length ∧ q = .int .i64 j ∧ l ++ F = acc ++ (forms (kids.drop j) ++ (60 :: 47 :: (s2.data.toList ++ [62]))) ∧ WS ob qb wb w.heap.size #[.int .i64 kd, .string s1, .string s2, .slice pa al.length ca, .slice pk kids.length ck, .string s3, .int .i64 at0] W0 w acc wr) (fun q _ => kids.length - (intOf q).toNat)
      case atStart => exact ⟨0, _, Nat.zero_le _, rfl, HR.out, HS4.out⟩
      case round =>
        clear HS4 HR
        obtain ⟨j, acc, hj, rfl, hrel, hS⟩ := hrel
        obtain ⟨wk, rfl⟩ : ∃ wk, wk = wr := ⟨_, rfl⟩
        have hzk := hS.nod.lt
        have hacl : acc.length + (forms (kids.drop j)).length + (s2.size + 3) ≤ 50000000 := by
          have h1 := congrArg List.length hrel
          have := HL.out
          simp only [List.length_append, List.length_cons, List.length_nil, blen] at h1
          omega
        by_cases hlj : j < kids.length
        case pos =>
          have hjz : (j : Int) < (kids.length : Int) := by omega
          rw [List.drop_eq_getElem_cons hlj, forms] at hrel hacl
          obtain ⟨a, v0, v1, v2, v3, v4, v5, v6, rfl, ⟨a0, a1, a2, a3, a4, a5, a6⟩, hk⟩ := KidsAt.get kids 0 HK.out j hlj
          rw [Nat.zero_add] at a0 a1 a2 a3 a4 a5 a6
          have c2 := HIH.out _ (List.getElem_mem hlj)
          obtain ⟨k, hkk⟩ : ∃ k, kids[j] = k := ⟨_, rfl⟩
          rw [hkk] at hk c2 hrel hacl
          rw [List.length_append] at hacl
          obtain ⟨ka, da, kq, dk, hv⟩ := node_form hk
          simp only [Value.agg.injEq, Array.mk.injEq, List.cons.injEq, and_true] at hv
          obtain ⟨rfl, rfl, rfl, rfl, rfl, rfl, rfl⟩ := hv
          obtain ⟨cc, hcc⟩ : ∃ c, a.add (j * 7) = c := ⟨_, rfl⟩
          rw [hcc] at a0 a1 a2 a3 a4 a5 a6
          simp only [Addr.add, Nat.reduceEqDiff, ↓reduceIte] at a1 a2 a3 a4 a5 a6
          replace a0 := (hS.base.cell (kblock_lt a0)).trans a0
          replace a1 := (hS.base.cell (kblock_lt a1)).trans a1
          replace a2 := (hS.base.cell (kblock_lt a2)).trans a2
          replace a3 := (hS.base.cell (kblock_lt a3)).trans a3
          replace a4 := (hS.base.cell (kblock_lt a4)).trans a4
          replace a5 := (hS.base.cell (kblock_lt a5)).trans a5
          replace a6 := (hS.base.cell (kblock_lt a6)).trans a6
          have hSA : ∀ o, WS ob qb wb w.heap.size #[.int .i64 kd, .string s1, .string s2, .slice pa al.length ca, .slice (some a) kids.length ck, .string s3, .int .i64 at0] W0 w acc (wk.alloc o) := fun o => hS.more ((Below.refl _ _).alloc (Nat.le_refl _) o) (by omega)
          have c3 := fun o => c2 _ W0 (wk.alloc o) acc hk hz (hSA o).base (hSA o).bld (hSA o).put (hSA o).wrt (by omega)
          have pw : ∀ o, (wk.alloc o).cell? ⟨wb, 0, none⟩ = some (wrtF qb wb) := fun o => (hSA o).wrt.cell 0
          unfold wrtF at pw
          have HR := Lib.hid (show l ++ F = (acc ++ k.form) ++ (forms (kids.drop (j + 1)) ++ (60 :: 47 :: (s2.data.toList ++ [62]))) by rw [hrel]; simp only [List.append_assoc])
          have HSA := Lib.hid hSA
          clear hrel hk hkk c2 hS hSA
          go_wp2_with fail
          refine (c3 _).mono ?_
          rintro e w6 ⟨rfl, B6, k6⟩
          have HN := Lib.hid ((HSA.out _).step k6 B6 hq hwb hne hz)
          clear B6 k6 c3 pw HSA a0 a1 a2 a3 a4 a5 a6
          go_wp2
          go_roundw
          case rel => exact ⟨j + 1, _, by omega, by go_num, HR.out, HN.out⟩
          case measure => simp [intOf]; omega
        case neg =>
          obtain rfl : j = kids.length := by omega
          have hjz : ¬ (kids.length : Int) < (kids.length : Int) := by omega
          rw [List.drop_eq_nil_of_le (Nat.le_refl _)] at hrel
          have HR := Lib.hid (show l ++ F = acc ++ ((⟨#[60, 47]⟩ : ByteArray).data.toList ++ (s2.data.toList ++ (⟨#[62]⟩ : ByteArray).data.toList)) by rw [hrel]; simp [forms])
          have c1 := xw_put3 ob acc ⟨#[60, 47]⟩ s2 ⟨#[62]⟩ wk hS.bld (by have h1 : (⟨#[60, 47]⟩ : ByteArray).size = 2 := rfl; have h2 : (⟨#[62]⟩ : ByteArray).size = 1 := rfl; omega) (by omega)
          have p2 : wk.cell? ⟨w.heap.size, 2, none⟩ = some (.string s2) := hS.nod.cell 2
          have pq : wk.cell? ⟨qb, 0, none⟩ = some (putF ob) := hS.put.cell 0
          unfold putF at pq
          have HS5 := Lib.hid hS
          clear hrel hS
          go_wp2_with fail
          refine c1.mono ?_
          rintro e w3 ⟨rfl, B3, k3⟩
          have HB3 := Lib.hid (show Bld ob ob (l ++ F) w3 by rw [HR.out]; exact B3)
          have HK3 := Lib.hid (HS5.out.chg.trans k3)
          clear B3 k3
          go_wp2
          go_end0
          exact ⟨rfl, HB3.out, HK3.out⟩
theorem xw_node (ob qb wb : Nat) (hq : qb ≠ ob) (hwb : wb ≠ ob) : ∀ f : Nat, WriteC ob qb wb f
  | 0 => fun n _ _ _ _ hf => absurd hf (by have := cnt_eq n; omega)
  | f + 1 => fun n v W0 w l hf hm hn hz hW hB hQ hR hl => by
    have hob : ob < w.heap.size := by
      rcases hB with h | h
      · obtain ⟨_, _, hh, _⟩ := h
        exact (Array.getElem?_eq_some_iff.1 hh).1
      · obtain ⟨_, _, hh, _⟩ := h
        exact (Array.getElem?_eq_some_iff.1 hh).1
    by_cases h1 : n.kind = 1
    · exact xw_data ob qb wb hq n v W0 w l h1 hm hn hB hQ hob hl
    · exact xw_element ob qb wb f hq hwb (xw_node ob qb wb hq hwb f) n v W0 w l h1 hf hm hn hz hW hB hQ hR hob hl
end Go.Proofs.YtppmoeidgefkpaaDoor
end
section
namespace Go.Proofs.YtppmoeidgefkpaaDoor
open Go.RowKit
theorem store_one {P : Program} (w : World) (b : Nat) (T : TypeId) (u v : Value) (hb : Blk w b #[u] T) (h1 : v.oneCell' = true) : (store ⟨b, 0, none⟩ v).run P w = .ok () (w.setCell ⟨b, 0, none⟩ v) := by
  rw [run_store P w _ v _ h1, hb.cell]
  simp [hb.fr]
set_option maxRecDepth 100000 in
set_option maxHeartbeats 16000000 in
theorem xw_Write (n : NodeD) (v : Value) (w : World) (hm : n.mass ≤ 1000000) (hT : HasTabs w) (hn : NodeIs w n v) : Calls Tryd.prog 9 #[v] w fun e w' => e = .returned (.tuple #[.string (writeP n), .int .i64 (errP n)]) ∧ Below w.heap.size w w' := by
  have hec := err_cases n
  have hfl := form_len n
  have hdb : docP n = headP ++ (n.form ++ [10]) := rfl
  have hbe : ∀ o : Obj, Below w.heap.size w (w.alloc o) := fun o => (Below.refl _ _).alloc (Nat.le_refl _) _
  have cC : ∀ wx, HasTabs wx → NodeIs wx n v → _ := fun wx ht h => xw_Check n v wx hm ht h
  have hTe : ∀ o : Obj, HasTabs (w.alloc o) := fun o => HasTabs_below hT (hbe o)
  have hne : ∀ o : Obj, NodeIs (w.alloc o) n v := fun o => hn.below (hbe o)
  have hze : ∀ o : Obj, (w.alloc o).heap.size = w.heap.size + 1 := fun o => by simp
  have HW := Lib.hid (fun (ob qb wb : Nat) (hq : qb ≠ ob) (hwb : wb ≠ ob) => fun W0 w l => xw_node ob qb wb hq hwb n.cnt n v W0 w l (Nat.le_refl _) hm)
  obtain ⟨pa, ca, pk, ck, rfl, -, -⟩ := (node_is w n v).1 hn
  have HB := Lib.hid (Blk.new w #[.int .i64 n.kind, .string n.sp, .string n.nm, .slice pa n.al.length ca, .slice pk n.kids.length ck, .string n.tx, .int .i64 n.at'] 25)
  have HN0 := Lib.hid hn
  clear hn hT
  generalize writeP n = WPx at *
  generalize errP n = EPx at *
  rcases hec with ⟨-, rfl, hw⟩ | ⟨-, rfl, rfl⟩
  case inr =>
    clear hfl hdb HW
    go_enter Tryd.func9, Tryd.ntmps9
    go_wp2_with fail
    refine (cC _ (hTe _) (hne _)).mono ?_
    rintro e w1 ⟨rfl, b1⟩
    have b2 := (hbe _).trans (b1.mono (by rw [hze]; omega))
    go_wp2
    go_ret2
    exact ⟨rfl, b2⟩
  have hFs : n.form.length ≤ 6000000 := by omega
  rw [hdb] at hw
  have HWP := Lib.hid hw
  clear hw hdb hfl
  go_enter Tryd.func9, Tryd.ntmps9
  go_wp2_with fail
  refine (cC _ (hTe _) (hne _)).mono ?_
  rintro e w1 ⟨rfl, b1⟩
  have b2 := (hbe _).trans (b1.mono (by rw [hze]; omega))
  have hz1 : w.heap.size < w1.heap.size := by have := b1.size; rw [hze] at this; omega
  have PN := HB.out.more b1
  clear cC hTe hne
  have hA0 : ∀ (wx : World) o, (wx.alloc o).heap.size = wx.heap.size + 1 := fun wx o => by simp
  have hA : (w1.alloc (.cells #[.pointer none, .slice none 0 0] 51)).heap.size = w1.heap.size + 1 := hA0 _ _
  have PB1 := bld_fresh w1
  have PQ1 : Blk ((w1.alloc (.cells #[.pointer none, .slice none 0 0] 51)).alloc (.cells #[.nilFunc] 56)) (w1.heap.size + 1) #[.nilFunc] 56 := by
    have := Blk.new (w1.alloc (.cells #[.pointer none, .slice none 0 0] 51)) #[.nilFunc] 56
    rw [hA] at this
    exact this
  have st1 := store_one (P := Tryd.prog) _ _ _ _ (.func (.func 20) #[] #[.pointer (some ⟨w1.heap.size, 0, none⟩)]) PQ1 rfl
  have hA2 : ((w1.alloc (.cells #[.pointer none, .slice none 0 0] 51)).alloc (.cells #[.func (.func 20) #[] #[.pointer (some ⟨w1.heap.size, 0, none⟩)]] 56)).heap.size = w1.heap.size + 1 + 1 := by rw [hA0, hA]
  have PW1 : Blk (((w1.alloc (.cells #[.pointer none, .slice none 0 0] 51)).alloc (.cells #[.func (.func 20) #[] #[.pointer (some ⟨w1.heap.size, 0, none⟩)]] 56)).alloc (.cells #[.nilFunc] 57)) (w1.heap.size + 1 + 1) #[.nilFunc] 57 := by
    have := Blk.new ((w1.alloc (.cells #[.pointer none, .slice none 0 0] 51)).alloc (.cells #[.func (.func 20) #[] #[.pointer (some ⟨w1.heap.size, 0, none⟩)]] 56)) #[.nilFunc] 57
    rw [hA2] at this
    exact this
  have st2 := store_one (P := Tryd.prog) _ _ _ _ (.func (.func 22) #[] #[.pointer (some ⟨w1.heap.size + 1, 0, none⟩), .pointer (some ⟨w1.heap.size + 1 + 1, 0, none⟩)]) PW1 rfl
  obtain ⟨W4, hW4⟩ : ∃ W4, W4 = ((w1.alloc (.cells #[.pointer none, .slice none 0 0] 51)).alloc (.cells #[.func (.func 20) #[] #[.pointer (some ⟨w1.heap.size, 0, none⟩)]] 56)).alloc (.cells #[.func (.func 22) #[] #[.pointer (some ⟨w1.heap.size + 1, 0, none⟩), .pointer (some ⟨w1.heap.size + 1 + 1, 0, none⟩)]] 57) := ⟨_, rfl⟩
  have bW : ∀ (wx : World) o, Below wx.heap.size wx (wx.alloc o) := fun wx o => (Below.refl _ _).alloc (Nat.le_refl _) _
  have hz4 : w1.heap.size + 2 < W4.heap.size := by rw [hW4, hA0, hA2]; omega
  have Q4 : Blk W4 (w1.heap.size + 1) #[putF w1.heap.size] 56 := by
    rw [hW4]
    have := Blk.new (w1.alloc (.cells #[.pointer none, .slice none 0 0] 51)) #[putF w1.heap.size] 56
    rw [hA] at this
    exact this.more (bW _ _)
  have R4 : Blk W4 (w1.heap.size + 1 + 1) #[wrtF (w1.heap.size + 1) (w1.heap.size + 1 + 1)] 57 := by
    rw [hW4]
    have := Blk.new ((w1.alloc (.cells #[.pointer none, .slice none 0 0] 51)).alloc (.cells #[putF w1.heap.size] 56)) #[wrtF (w1.heap.size + 1) (w1.heap.size + 1 + 1)] 57
    rw [show ((w1.alloc (.cells #[.pointer none, .slice none 0 0] 51)).alloc (.cells #[putF w1.heap.size] 56)).heap.size = w1.heap.size + 1 + 1 from hA2] at this
    exact this
  have b4 : Below w1.heap.size w1 W4 := by
    rw [hW4]
    exact ((bW _ _).trans ((bW _ _).mono (by rw [hA]; omega))).trans ((bW _ _).mono (by rw [hA2]; omega))
  have B4 : Bld w1.heap.size w1.heap.size [] W4 := by
    rw [hW4]
    exact (PB1.below (bW _ _)).below (bW _ _)
  have S4 : WS w1.heap.size (w1.heap.size + 1) (w1.heap.size + 1 + 1) w.heap.size #[.int .i64 n.kind, .string n.sp, .string n.nm, .slice pa n.al.length ca, .slice pk n.kids.length ck, .string n.tx, .int .i64 n.at'] w W4 [] W4 := by
    refine ⟨B4, Q4, R4, PN.more b4, b2.trans (b4.mono (by omega)), Wrt.refl _ _⟩
  have pq4 : W4.cell? ⟨w1.heap.size + 1, 0, none⟩ = some (.func (.func 20) #[] #[.pointer (some ⟨w1.heap.size, 0, none⟩)]) := Q4.cell 0
  have c1 := xw_put1 w1.heap.size [] ⟨#[60, 63, 120, 109, 108, 32, 118, 101, 114, 115, 105, 111, 110, 61, 34, 49, 46, 48, 34, 32, 101, 110, 99, 111, 100, 105, 110, 103, 61, 34, 85, 84, 70, 45, 56, 34, 63, 62, 10]⟩ W4 B4 (by decide) (by omega)
  have HB2 := Lib.hid (b2.trans (b4.mono (by omega)))
  have HS4 := Lib.hid S4
  have HZ4 := Lib.hid hz4
  clear PB1 PQ1 PW1 hA hA2 hA0 bW S4 B4 Q4 R4 b4 PN b1 b2
  go_upto_region 8 with fail
  simp only [← hW4]
  clear hW4 st2
  go_wp2_with fail
  refine c1.mono ?_
  rintro e w5 ⟨rfl, B5, k5⟩
  have S5 := HS4.out.step k5 B5 (by omega) (by omega) (by omega) (by omega)
  have q1 : w5.cell? ⟨w1.heap.size + 1 + 1, 0, none⟩ = some (.func (.func 22) #[] #[.pointer (some ⟨w1.heap.size + 1, 0, none⟩), .pointer (some ⟨w1.heap.size + 1 + 1, 0, none⟩)]) := S5.wrt.cell 0
  have f0 : w5.cell? ⟨w.heap.size, 0, none⟩ = some (.int .i64 n.kind) := S5.nod.cell 0
  have f1 : w5.cell? ⟨w.heap.size, 1, none⟩ = some (.string n.sp) := S5.nod.cell 1
  have f2 : w5.cell? ⟨w.heap.size, 2, none⟩ = some (.string n.nm) := S5.nod.cell 2
  have f3 : w5.cell? ⟨w.heap.size, 3, none⟩ = some (.slice pa n.al.length ca) := S5.nod.cell 3
  have f4 : w5.cell? ⟨w.heap.size, 4, none⟩ = some (.slice pk n.kids.length ck) := S5.nod.cell 4
  have f5 : w5.cell? ⟨w.heap.size, 5, none⟩ = some (.string n.tx) := S5.nod.cell 5
  have f6 : w5.cell? ⟨w.heap.size, 6, none⟩ = some (.int .i64 n.at') := S5.nod.cell 6
  have c2 := HW.out w1.heap.size (w1.heap.size + 1) (w1.heap.size + 1 + 1) (by omega) (by omega) w w5 _ HN0.out (by omega) S5.base S5.bld S5.put S5.wrt (by
    have : (⟨#[60, 63, 120, 109, 108, 32, 118, 101, 114, 115, 105, 111, 110, 61, 34, 49, 46, 48, 34, 32, 101, 110, 99, 111, 100, 105, 110, 103, 61, 34, 85, 84, 70, 45, 56, 34, 63, 62, 10]⟩ : ByteArray).data.toList.length = 39 := rfl
    rw [List.length_append, this]
    simp only [List.length_nil]
    omega)
  have HS5 := Lib.hid S5
  clear S5 B5 k5 c1 pq4 HS4
  go_wp2_with fail
  refine c2.mono ?_
  rintro e w6 ⟨rfl, B6, k6⟩
  have S6 := HS5.out.step k6 B6 (by omega) (by omega) (by omega) (by omega)
  have pq6 : w6.cell? ⟨w1.heap.size + 1, 0, none⟩ = some (.func (.func 20) #[] #[.pointer (some ⟨w1.heap.size, 0, none⟩)]) := S6.put.cell 0
  have z6 := S6.wrt.lt
  have c3 := xw_put1 w1.heap.size _ ⟨#[10]⟩ w6 S6.bld (by
    have : (⟨#[60, 63, 120, 109, 108, 32, 118, 101, 114, 115, 105, 111, 110, 61, 34, 49, 46, 48, 34, 32, 101, 110, 99, 111, 100, 105, 110, 103, 61, 34, 85, 84, 70, 45, 56, 34, 63, 62, 10]⟩ : ByteArray).data.toList.length = 39 := rfl
    have h2 : (⟨#[10]⟩ : ByteArray).size = 1 := rfl
    rw [List.length_append, List.length_append, this, h2]
    simp only [List.length_nil]
    omega) (by omega)
  have HS6 := Lib.hid S6
  clear S6 B6 k6 c2 q1 f0 f1 f2 f3 f4 f5 f6 HS5
  go_wp2_with fail
  refine c3.mono ?_
  rintro e w7 ⟨rfl, B7, k7⟩
  have S7 := HS6.out.step k7 B7 (by omega) (by omega) (by omega) (by omega)
  have z7 := S7.wrt.lt
  have c4 := bld_String w1.heap.size w1.heap.size _ w7 S7.bld (by omega)
  have HS7 := Lib.hid S7
  clear S7 B7 k7 c3 pq6 HS6 z6
  have hby : ofBytes ((([] ++ (⟨#[60, 63, 120, 109, 108, 32, 118, 101, 114, 115, 105, 111, 110, 61, 34, 49, 46, 48, 34, 32, 101, 110, 99, 111, 100, 105, 110, 103, 61, 34, 85, 84, 70, 45, 56, 34, 63, 62, 10]⟩ : ByteArray).data.toList) ++ n.form) ++ (⟨#[10]⟩ : ByteArray).data.toList) = WPx := by
    rw [HWP.out]
    exact congrArg ofBytes (List.append_assoc _ _ _)
  rw [hby] at c4
  clear hby
  go_wp2_with fail
  refine c4.mono ?_
  rintro e w8 ⟨rfl, -, b8⟩
  have HB8 := Lib.hid (HS7.out.base.trans (b8.mono (by omega)))
  clear b8 c4
  go_wp2
  go_ret2
  exact ⟨rfl, HB8.out⟩
end Go.Proofs.YtppmoeidgefkpaaDoor
end
