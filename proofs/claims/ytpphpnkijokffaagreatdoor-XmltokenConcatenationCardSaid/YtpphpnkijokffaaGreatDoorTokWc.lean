/- The walk of the law of layer 6 on two documents in sequence. -/
import Derived.Test.YtpphpnkijokffaaGreatDoorTokW
import Derived.Test.YtpphpnkijokffaaGreatDoorTokRa
import Derived.Maps.AppendAt
import Derived.Deep.QuietTactic
import Derived.BigQuiet
import Derived.WalkSmall
namespace Go.Proofs.YtpphpnkijokffaaGreatDoor
open Go.RowKit

/-- What holds at the head of a round: the first document's tokens and those of the second one that have been appended. -/
def ConR (w0 w1 w3 wr : World) (v : Value) (ps qs ps2 : List (TokD × Value)) (d i : Nat) : Prop := (TokRow wr w0.heap.size v (ps ++ qs) ∧ qs.map Prod.fst = (ps2.take i).map fun x => shT d x.1) ∧ (KeepsFrom w1.heap.size w3 wr ∧ w3.heap.size ≤ wr.heap.size) ∧ Below w0.heap.size w0 wr ∧ ∀ g, v.ownBlock = some g → g < w1.heap.size ∨ w3.heap.size ≤ g
theorem hasP_zero (l x : List UInt8) : hasP l 0 x = x.isPrefixOf l := by
  unfold hasP; rfl
set_option maxRecDepth 100000 in
set_option maxHeartbeats 16000000 in
theorem walk_TokConc (s t : ByteArray) (w : World) (hs : s.size ≤ 140737488351232) (ht : t.size ≤ 140737488351232) (hT : TokT w) : Calls Tryz.prog 4 #[.string s, .string t] w fun e w' => e = .returned (.bool true) ∧ Below w.heap.size w w' := by
  have cA : ∀ wx, TokT wx → _ := fun wx ht => tok_alive wx ht
  by_cases h5 : (3000 : Int) < (s.size : Int) + (t.size : Int)
  · go_enter Tryz.func4, Tryz.ntmps4
    go_wp2_with fail
    refine (cA _ hT).mono ?_
    rintro e w1 ⟨rfl, b1⟩
    go_wp2
    go_ret
    exact ⟨rfl, b1⟩
  have hst : s.size + t.size ≤ 3000 := by omega
  have k1 := fun wx => same_calls (Tryz.strings_HasPrefix t ⟨#[239, 187, 191]⟩ wx)
  rw [show Lib.hasPrefix t.data.toList (⟨#[239, 187, 191]⟩ : ByteArray).data.toList = hasP t.data.toList 0 [239, 187, 191] from (hasP_zero _ _).symm] at k1
  rcases hb : hasP t.data.toList 0 [239, 187, 191] with _ | _
  case true =>
    rw [hb] at k1
    clear hb
    go_enter Tryz.func4, Tryz.ntmps4
    go_wp2_with fail
    refine (k1 _).mono ?_
    rintro e w' ⟨rfl, rfl⟩
    go_wp2_with fail
    refine (cA _ hT).mono ?_
    rintro e w1 ⟨rfl, b1⟩
    go_wp2
    go_ret
    exact ⟨rfl, b1⟩
  rw [hb] at k1
  have c1 : ∀ wx, _ := fun wx => tref_Tokens s wx (by omega)
  have hsm := toksP_small s
  have hC := toks_conc s t
  generalize toksP s = R at *
  obtain ⟨l, x1, x2⟩ := R
  simp only at hsm hC
  by_cases hx : x2 = 0
  case neg =>
    have hxb : (x2 != 0) = true := by simpa using hx
    clear hC hb hx
    go_enter Tryz.func4, Tryz.ntmps4
    go_wp2_with fail
    refine (k1 _).mono ?_
    rintro e w' ⟨rfl, rfl⟩
    go_wp2_with fail
    refine (c1 _).mono ?_
    rintro e w1 ⟨v, ps, rfl, hps, hrow, b1⟩
    have t1 := TokT_below hT b1
    go_wp2_with fail
    refine (cA _ t1).mono ?_
    rintro e w2 ⟨rfl, b2⟩
    go_wp2
    go_ret
    exact ⟨rfl, b1.trans (b2.mono b1.size)⟩
  subst hx
  rcases hl : l.length with _ | n
  case zero =>
    obtain rfl : l = [] := List.eq_nil_of_length_eq_zero hl
    clear hC hb hl
    go_enter Tryz.func4, Tryz.ntmps4
    go_wp2_with fail
    refine (k1 _).mono ?_
    rintro e w' ⟨rfl, rfl⟩
    go_wp2_with fail
    refine (c1 _).mono ?_
    rintro e w1 ⟨v, ps, rfl, hps, hrow, b1⟩
    have t1 := TokT_below hT b1
    obtain rfl : ps = [] := List.map_eq_nil_iff.1 hps
    obtain ⟨A, c, rfl⟩ := own_form hrow.1
    clear hps hrow
    rw [show ([] : List (TokD × Value)).length = 0 from rfl]
    go_wp2_with fail
    refine (cA _ t1).mono ?_
    rintro e w2 ⟨rfl, b2⟩
    go_wp2
    go_ret
    exact ⟨rfl, b1.trans (b2.mono b1.size)⟩
  have hnl : n < l.length := by omega
  have hn3 : n ≤ 3000 := by have := hsm.1; omega
  have hz1 : ((n : Int) + 1 == 0) = false := by simp; omega
  have hz2 : (((n + 1 : Nat) : Int) == 0) = false := by simp; omega
  have hz3 : (0 : Int) ≤ (n : Int) := by omega
  have hz4 : (n : Int) ≤ 3000 := by omega
  by_cases h3 : (l[n]'hnl).kind = 3
  case pos =>
    clear hC hb
    go_enter Tryz.func4, Tryz.ntmps4
    go_wp2_with fail
    refine (k1 _).mono ?_
    rintro e w' ⟨rfl, rfl⟩
    go_wp2_with fail
    refine (c1 _).mono ?_
    rintro e w1 ⟨v, ps, rfl, hps, hrow, b1⟩
    have t1 := TokT_below hT b1
    obtain ⟨A, c, rfl⟩ := own_form hrow.1
    change ps.map Prod.fst = l at hps
    have hpl : ps.length = n + 1 := by rw [← hl, ← hps, List.length_map]
    obtain ⟨g, rfl, hcell, -⟩ := tok_at hrow n (by omega)
    have hk : (ps[n]'(by omega)).1 = l[n]'hnl := by simp only [← hps, List.getElem_map]
    have g0 : w1.cell? ⟨g, n * 6, none⟩ = some (.int .i64 3) := hcell 0 (.int .i64 3) (by omega) (by simp only [tokCells, hk, h3]; rfl)
    rw [hpl]
    clear hcell hps hrow h3 hk hpl hl hsm
    go_wp2_with fail
    refine (cA _ t1).mono ?_
    rintro e w2 ⟨rfl, b2⟩
    go_wp2
    go_ret
    exact ⟨rfl, b1.trans (b2.mono b1.size)⟩
  have k2 := fun wx => same_calls (Tryz.strings_HasSuffix s ⟨#[62]⟩ wx (by omega))
  rcases hsf : Lib.hasSuffix s.data.toList (⟨#[62]⟩ : ByteArray).data.toList with _ | _
  case false =>
    rw [hsf] at k2
    clear hC hb hsf
    go_enter Tryz.func4, Tryz.ntmps4
    go_wp2_with fail
    refine (k1 _).mono ?_
    rintro e w' ⟨rfl, rfl⟩
    go_wp2_with fail
    refine (c1 _).mono ?_
    rintro e w1 ⟨v, ps, rfl, hps, hrow, b1⟩
    have t1 := TokT_below hT b1
    obtain ⟨A, c, rfl⟩ := own_form hrow.1
    change ps.map Prod.fst = l at hps
    have hpl : ps.length = n + 1 := by rw [← hl, ← hps, List.length_map]
    obtain ⟨g, rfl, hcell, -⟩ := tok_at hrow n (by omega)
    have hk : (ps[n]'(by omega)).1 = l[n]'hnl := by simp only [← hps, List.getElem_map]
    have g0 : w1.cell? ⟨g, n * 6, none⟩ = some (.int .i64 (l[n]'hnl).kind) := hcell 0 (.int .i64 (l[n]'hnl).kind) (by omega) (by simp only [tokCells, hk]; rfl)
    have hkb : ((l[n]'hnl).kind == 3) = false := by simpa using h3
    generalize (l[n]'hnl).kind = kd at *
    rw [hpl]
    clear hcell h3 hk hl hsm
    go_wp2_with fail
    refine (k2 _).mono ?_
    rintro e w' ⟨rfl, rfl⟩
    go_wp2_with fail
    refine (cA _ t1).mono ?_
    rintro e w2 ⟨rfl, b2⟩
    go_wp2
    go_ret
    exact ⟨rfl, b1.trans (b2.mono b1.size)⟩
  rw [hsf] at k2
  clear hsf
  have c2 : ∀ wx, _ := fun wx => tref_Tokens t wx (by omega)
  have hsz : (s ++ t).size ≤ 3000 := by rw [ByteArray.size_append]; omega
  have c3 : ∀ wx, TokT wx → _ := fun wx ht => tok_TokensN (s ++ t) wx (by omega) ht
  have hlne : l ≠ [] := fun e => by rw [e] at hnl; simp at hnl
  have hgl : ∀ x, l.getLast? = some x → x.kind ≠ 3 := fun x hx => by
    rw [List.getLast?_eq_getElem?, hl, show n + 1 - 1 = n by omega, List.getElem?_eq_getElem hnl] at hx
    rw [← Option.some.inj hx]; exact h3
  rw [hC rfl hlne hgl hb] at c3
  have hsm2 := toksP_small t
  have hat2 := toksP_ats t
  have hpl2 := toksP_place t
  have hbd2 := (toksP_ok t).2.1
  generalize toksP t = R2 at *
  obtain ⟨m, y1, y2⟩ := R2
  simp only at hsm2 hat2 hpl2 hbd2
  by_cases hy : y2 = 0
  case neg =>
    have hyb : (y2 != 0) = true := by simpa using hy
    have e3 : shG s.size l (m, y1, y2) = ([], (s.size : Int) + y1, y2) := by unfold shG; rw [if_neg hy]
    rw [e3] at c3
    obtain ⟨hy0, hy1⟩ := hbd2
    obtain ⟨S, hS⟩ : ∃ S, S = s ++ t := ⟨_, rfl⟩
    rw [← hS] at c3
    have HS := Lib.hid hS
    clear hC hb e3 hy hS hlne hgl hsm2 hat2 hpl2
    go_enter Tryz.func4, Tryz.ntmps4
    go_wp2_with fail
    refine (k1 _).mono ?_
    rintro e w' ⟨rfl, rfl⟩
    go_wp2_with fail
    refine (c1 _).mono ?_
    rintro e w1 ⟨v, ps, rfl, hps, hrow, b1⟩
    have t1 := TokT_below hT b1
    obtain ⟨A, c, rfl⟩ := own_form hrow.1
    change ps.map Prod.fst = l at hps
    have hpl : ps.length = n + 1 := by rw [← hl, ← hps, List.length_map]
    obtain ⟨g, rfl, hcell, -⟩ := tok_at hrow n (by omega)
    have hk : (ps[n]'(by omega)).1 = l[n]'hnl := by simp only [← hps, List.getElem_map]
    have g0 : w1.cell? ⟨g, n * 6, none⟩ = some (.int .i64 (l[n]'hnl).kind) := hcell 0 (.int .i64 (l[n]'hnl).kind) (by omega) (by simp only [tokCells, hk]; rfl)
    have hkb : ((l[n]'hnl).kind == 3) = false := by simpa using h3
    generalize (l[n]'hnl).kind = kd at *
    rw [hpl]
    clear hcell h3 hk hl hsm
    go_wp2_with fail
    refine (k2 _).mono ?_
    rintro e w' ⟨rfl, rfl⟩
    go_wp2_with fail
    refine (c2 _).mono ?_
    rintro e w2 ⟨v2, ps2, rfl, hps2, hrow2, b2⟩
    have t2 := TokT_below t1 b2
    go_wp2_with fail
    rw [← HS.out]
    refine (c3 _ t2).mono ?_
    rintro e w3 ⟨p3, c3', rfl, hp3, b3⟩
    have t3 := TokT_below t2 b3
    clear hps2 hrow2 hp3
    go_wp2_with fail
    refine (cA _ t3).mono ?_
    rintro e w4 ⟨rfl, b4⟩
    go_wp2
    go_ret
    have s1 := b1.size; have s2 := b2.size; have s3 := b3.size
    exact ⟨by simp, ((b1.trans (b2.mono s1)).trans (b3.mono (by omega))).trans (b4.mono (by omega))⟩
  subst hy
  have e3 : shG s.size l (m, y1, 0) = (l ++ m.map (shT s.size), (s.size : Int) + y1, 0) := if_pos rfl
  rw [e3] at c3
  obtain ⟨hy0, hy1⟩ := hbd2
  obtain ⟨S, hS⟩ : ∃ S, S = s ++ t := ⟨_, rfl⟩
  rw [← hS] at c3
  have HS := Lib.hid hS
  have HSM := Lib.hid hsm
  have HSM2 := Lib.hid hsm2
  have HAT2 := Lib.hid hat2
  have HPL2 := Lib.hid hpl2
  obtain ⟨i0, hi0, hi1, hi3, hi4⟩ := info_parts kinfo_tok
  obtain ⟨j0, hj0, hj1, hj3, hj4⟩ := info_parts kinfo_attr
  clear hC hb e3 hS hlne hgl hsm2 hat2 hpl2
  go_enter Tryz.func4, Tryz.ntmps4
  go_wp2_with fail
  refine (k1 _).mono ?_
  rintro e w' ⟨rfl, rfl⟩
  go_wp2_with fail
  refine (c1 _).mono ?_
  rintro e w1 ⟨v, ps, rfl, hps, hrow, b1⟩
  have t1 := TokT_below hT b1
  obtain ⟨A, c, rfl⟩ := own_form hrow.1
  change ps.map Prod.fst = l at hps
  have hpl : ps.length = n + 1 := by rw [← hl, ← hps, List.length_map]
  obtain ⟨g, rfl, hcell, -⟩ := tok_at hrow n (by omega)
  have hk : (ps[n]'(by omega)).1 = l[n]'hnl := by simp only [← hps, List.getElem_map]
  have g0 : w1.cell? ⟨g, n * 6, none⟩ = some (.int .i64 (l[n]'hnl).kind) := hcell 0 (.int .i64 (l[n]'hnl).kind) (by omega) (by simp only [tokCells, hk]; rfl)
  have hkb : ((l[n]'hnl).kind == 3) = false := by simpa using h3
  generalize (l[n]'hnl).kind = kd at *
  rw [hpl]
  clear hcell h3 hk hl hsm
  go_wp2_with fail
  refine (k2 _).mono ?_
  rintro e w' ⟨rfl, rfl⟩
  go_wp2_with fail
  refine (c2 _).mono ?_
  rintro e w2 ⟨v2, ps2, rfl, hps2, hrow2, b2⟩
  have t2 := TokT_below t1 b2
  obtain ⟨A2, cp2, rfl⟩ := own_form hrow2.1
  change ps2.map Prod.fst = m at hps2
  go_wp2_with fail
  rw [← HS.out]
  refine (c3 _ t2).mono ?_
  rintro e w3 ⟨p3, c3', rfl, hp3, b3⟩
  have t3 := TokT_below t2 b3
  have s1 := b1.size
  have s2 := b2.size
  have s3 := b3.size
  have hrow3 := (hrow.below b2).below b3
  have hrow23 := hrow2.below b3
  have hb03 : Below w.heap.size w w3 := (b1.trans (b2.mono s1)).trans (b3.mono (by omega))
  have hglt := (hrow.1.lt g (by simp [Value.ownBlock])).2
  have hm2 : (ps2.length : Int) ≤ 3000 := by have := HSM2.out.1; rw [← hps2, List.length_map] at this; omega
  have HPS := Lib.hid hps
  have HPS2 := Lib.hid hps2
  have HPL := Lib.hid hpl
  have H0 : ConR w w1 w3 w3 (.slice (some ⟨g, 0, none⟩) (n + 1) c) ps [] ps2 s.size 0 := ⟨⟨by rw [List.append_nil, ← HPL.out]; exact hrow3, rfl⟩, ⟨KeepsFrom.refl _ _, Nat.le_refl _⟩, hb03, fun g' hg' => by simp [Value.ownBlock] at hg'; omega⟩
  clear hps hps2 hrow hrow2 hrow3 hpl b1 b2 b3 g0 c1 c2 c3 k1 k2
  go_wp2
  go_loopw [5, 90] (fun v q wr => ∃ (i : Nat) (qs : List (TokD × Value)) (A : Option Addr) (cc : Nat), i ≤ ps2.length ∧ q = .int .i64 i ∧ v = .slice A (ps ++ qs).length cc ∧ ConR w w1 w3 wr (.slice A (ps ++ qs).length cc) ps qs ps2 s.size i) (fun _ q _ => ps2.length - (intOf q).toNat)
  case atStart => exact ⟨0, [], _, _, Nat.zero_le _, rfl, by rw [List.append_nil, HPL.out], by rw [List.append_nil, HPL.out]; exact H0⟩
  case round =>
    obtain ⟨i, qs, A, cc, hi, rfl, rfl, ⟨hrl, hqs⟩, ⟨hkf, hz3⟩, hbl, hob⟩ := hrel
    obtain ⟨wo, rfl⟩ : ∃ wo, wo = wr := ⟨_, rfl⟩
    by_cases hlt : i < ps2.length
    · have hiz : (i : Int) < (ps2.length : Int) := by omega
      obtain ⟨g2, rfl, hcell, hown⟩ := tok_at (hrow23.keeps hkf) i hlt
      have hmem : ps2[i].1 ∈ m := by rw [← HPS2.out]; exact List.mem_map.2 ⟨_, List.getElem_mem _, rfl⟩
      have hp1 := HPL2.out _ hmem
      have hp2 := HAT2.out _ hmem
      have hp4 := HSM2.out.2 _ hmem
      obtain ⟨q, hq⟩ : ∃ q, ps2[i] = q := ⟨_, rfl⟩
      rw [hq] at hcell hown hp1 hp2 hp4
      obtain ⟨⟨kd, nm, al, em, tx, at'⟩, va⟩ := q
      simp only at hown hp1 hp2 hp4
      obtain ⟨Aq, cq, rfl⟩ := own_form hown
      have d0 : wo.cell? ⟨g2, i * 6, none⟩ = some (.int .i64 kd) := hcell 0 _ (by omega) rfl
      have d1 : wo.cell? ⟨g2, i * 6 + 1, none⟩ = some (.string (ofBytes nm)) := hcell 1 _ (by omega) rfl
      have d2 : wo.cell? ⟨g2, i * 6 + 2, none⟩ = some (.slice Aq al.length cq) := hcell 2 _ (by omega) rfl
      have d3 : wo.cell? ⟨g2, i * 6 + 3, none⟩ = some (.bool em) := hcell 3 _ (by omega) rfl
      have d4 : wo.cell? ⟨g2, i * 6 + 4, none⟩ = some (.string (ofBytes tx)) := hcell 4 _ (by omega) rfl
      have d5 : wo.cell? ⟨g2, i * 6 + 5, none⟩ = some (.int .i64 at') := hcell 5 _ (by omega) rfl
      obtain ⟨hp10, hp11⟩ := hp1
      have hss : (s.size : Int) ≤ 3000 := by omega
      have hp12 : at' ≤ 3000 := by omega
      have HQ := Lib.hid hq
      have HP2 := Lib.hid hp2
      clear hcell hmem hq hp2 hrow23 hp3
      have hal : (al.length : Int) ≤ 3000 := by omega
      have hql : qs.length = i := by
        have h := congrArg List.length hqs
        rw [List.length_map, List.length_map, List.length_take, Nat.min_eq_left hi] at h
        exact h
      have hlq : ps.length + qs.length ≤ 6001 := by have := HPL.out; omega
      have HQL := Lib.hid hql
      clear hql
      have hub := UAt.new wo kd nm (.slice Aq al.length cq) em tx (at' + (s.size : Int))
      have hmd := World.ownsRow_made (base := wo.heap.size + 1) (e := 37) (size := 4) (wo.alloc (.cells #[.int .i64 kd, .string (ofBytes nm), .slice Aq al.length cq, .bool em, .string (ofBytes tx), .int .i64 (at' + (s.size : Int))] 35)) #[] 0 (by simp) (by decide) rfl
      rw [show (wo.alloc (.cells #[.int .i64 kd, .string (ofBytes nm), .slice Aq al.length cq, .bool em, .string (ofBytes tx), .int .i64 (at' + (s.size : Int))] 35)).heap.size = wo.heap.size + 1 by simp] at hmd
      have hbu := (Below.refl wo.heap.size wo).alloc (Nat.le_refl _) (.cells #[.int .i64 kd, .string (ofBytes nm), .slice Aq al.length cq, .bool em, .string (ofBytes tx), .int .i64 (at' + (s.size : Int))] 35)
      have hbv := hbu.alloc (by simp) (.cells #[] 37)
      have hu2 := hub.below ((Below.refl (wo.heap.size + 1) _).alloc (by simp) (.cells #[] 37)) (Nat.lt_succ_self _)
      rcases hown.2 with ⟨hv0, hn0⟩ | ⟨g3, cap3, cur3, hv0, -⟩
      · injection hv0 with q1 q2 q3
        subst q1 q3
        obtain rfl : al = [] := List.eq_nil_of_length_eq_zero hn0
        rw [show ([] : List AttrD).length = 0 from rfl] at *
        clear hn0
        go_wp2
        have hown5 : ((wo.alloc (.cells #[.int .i64 kd, .string (ofBytes nm), .slice none 0 0, .bool em, .string (ofBytes tx), .int .i64 (at' + (s.size : Int))] 35)).alloc (.cells #[] 37)).ownsRow (wo.heap.size + 1) 37 4 (.slice (some ⟨wo.heap.size + 1, 0, none⟩) 0 0) 0 (attrsCells (ShN s.size [] 0)) := hmd
        have hb5 := hbv
        have hu5 := hu2
        have hr1 : wo.ownsRow w.heap.size 35 6 (.slice A (ps.length + qs.length) cc) (ps.length + qs.length) (toksCells (ps ++ qs)) := by have := hrl.1; rwa [List.length_append] at this
        clear hmd hbv hu2 hub hbu
        go_loopw [106] (fun j wx => ∃ jn : Nat, jn ≤ 0 ∧ j = .int .i64 jn ∧ wx.ownsRow (wo.heap.size + 1) 37 4 (.slice (some ⟨wo.heap.size + 1, 0, none⟩) 0 0) 0 (attrsCells (ShN s.size [] jn)) ∧ UAt wx wo.heap.size kd nm (.slice none 0 0) em tx (at' + (s.size : Int)) ∧ Below wo.heap.size wo wx) (fun j _ => 0 - (intOf j).toNat)
        case atStart => exact ⟨0, Nat.zero_le _, rfl, hown5, hu5, hb5⟩
        case round =>
          obtain ⟨jn, hjn, rfl, hxo, hxu, hxb⟩ := hrel
          by_cases hjl : jn < 0
          case pos =>
            exact absurd hjl (by omega)
          case neg =>
            obtain rfl : jn = 0 := by omega
            have hsn : attrsCells (ShN s.size [] 0) = attrsCells (([] : List AttrD).map (shA s.size)) := congrArg attrsCells (ShN_end s.size [])
            rw [hsn] at hxo
            have hxz := hxb.size
            have hown6 := ownsRow_setCell_below hxo (a := ⟨wo.heap.size, 2, none⟩) (Nat.lt_succ_self _) (.slice (some ⟨wo.heap.size + 1, 0, none⟩) 0 0)
            have hu6 := hxu.set2 (.slice (some ⟨wo.heap.size + 1, 0, none⟩) 0 0)
            have hb6 : Below wo.heap.size wo (wr.setCell ⟨wo.heap.size, 2, none⟩ (.slice (some ⟨wo.heap.size + 1, 0, none⟩) 0 0)) := hxb.setCell (p := ⟨wo.heap.size, 2, none⟩) (Nat.le_refl _) _
            have hr6 := row_below hr1 hb6
            obtain ⟨⟨m0, m1, m2, m3, m4, m5⟩, mf⟩ := hxu.cells
            obtain ⟨⟨n0, n1, n2, n3, n4, n5⟩, nf⟩ := hu6.cells
            have hz6 : wo.heap.size ≤ (wr.setCell ⟨wo.heap.size, 2, none⟩ (.slice (some ⟨wo.heap.size + 1, 0, none⟩) 0 0)).heap.size := hb6.size
            have hnew := tok_new (wr.setCell ⟨wo.heap.size, 2, none⟩ (.slice (some ⟨wo.heap.size + 1, 0, none⟩) 0 0)) 35 (⟨kd, nm, ([] : List AttrD).map (shA s.size), em, tx, at' + (s.size : Int)⟩, .slice (some ⟨wo.heap.size + 1, 0, none⟩) 0 0)
            rw [World.size_setCell] at hnew
            have hjz : ¬ (((0 : Nat) : Int) < ((0 : Nat) : Int)) := by omega
            clear hxo hxb hsn
            go_wp2_with (at_builtin; go_loud (refine wpList_append_own_at _ rfl (.tmp 122) (.tmp 124) 27 rfl w.heap.size 35 i0 (.agg #[.int .i64 0, .string ⟨#[]⟩, .slice none 0 0, .bool false, .string ⟨#[]⟩, .int .i64 0]) 6 80 Tryz.underlying27 hi0 hi1 hi3 hi4 rfl (by decide) (.slice A (ps.length + qs.length) cc) (ps.length + qs.length) (toksCells (ps ++ qs)) rfl (hr6.alloc _) ⟨wr.heap.size, 0, none⟩ 1 1 (tokCells (⟨kd, nm, ([] : List AttrD).map (shA s.size), em, tx, at' + (s.size : Int)⟩, .slice (some ⟨wo.heap.size + 1, 0, none⟩) 0 0)) rfl rfl hnew (tok_one _ _ _ _) (by unfold maxLen; omega) (by omega) (by simp; have := hbl.size; have := hb6.size; simp at this; omega) ?_); intro v8 w8 hown8 hgr8 _ hat8; obtain ⟨A8, c8, rfl⟩ := own_form hown8)
            have hb7 := hb6.alloc hz6 (.cells #[.int .i64 kd, .string (ofBytes nm), .slice (some ⟨wo.heap.size + 1, 0, none⟩) 0 0, .bool em, .string (ofBytes tx), .int .i64 (at' + (s.size : Int))] 35)
            have hz7 := hb7.size
            have hblz := hbl.size
            have hob2 : ∀ g', (Value.slice A (ps.length + qs.length) cc).ownBlock = some g' → g' < w1.heap.size ∨ w3.heap.size ≤ g' := fun g' hg' => hob g' (by rw [List.length_append]; exact hg')
            have hbl8 : Below w.heap.size w w8 := (hbl.trans (hb7.mono hblz)).grown hgr8 (by omega) (fun g' hg' => (hr6.lt g' hg').1)
            have hkf8 : KeepsFrom w1.heap.size w3 w8 := (hkf.below hb7 hz3).grown hgr8 (by omega) hob2
            have hz8 : w3.heap.size ≤ w8.heap.size := by have := hgr8.size; omega
            have hob8 : ∀ g', (Value.slice A8 (ps.length + qs.length + 1) c8).ownBlock = some g' → g' < w1.heap.size ∨ w3.heap.size ≤ g' := fun g' hg' => by
              rcases hat8 with e8 | e8
              · exact hob2 g' (e8.symm.trans hg')
              · rw [e8] at hg'
                have := Option.some.inj hg'
                simp at this hz7
                right; omega
            have hlen8 : (ps ++ (qs ++ [((⟨kd, nm, ([] : List AttrD).map (shA s.size), em, tx, at' + (s.size : Int)⟩ : TokD), Value.slice (some ⟨wo.heap.size + 1, 0, none⟩) 0 0)])).length = ps.length + qs.length + 1 := by simp [Nat.add_assoc]
            have hrow8 : TokRow w8 w.heap.size (.slice A8 (ps ++ (qs ++ [((⟨kd, nm, ([] : List AttrD).map (shA s.size), em, tx, at' + (s.size : Int)⟩ : TokD), Value.slice (some ⟨wo.heap.size + 1, 0, none⟩) 0 0)])).length c8) (ps ++ (qs ++ [((⟨kd, nm, ([] : List AttrD).map (shA s.size), em, tx, at' + (s.size : Int)⟩ : TokD), Value.slice (some ⟨wo.heap.size + 1, 0, none⟩) 0 0)])) := by
              refine ⟨?_, fun q' hq' => ?_⟩
              · rw [hlen8, ← List.append_assoc, toksCells_app]
                exact hown8
              · have hr7 := hr6.alloc (.cells #[.int .i64 kd, .string (ofBytes nm), .slice (some ⟨wo.heap.size + 1, 0, none⟩) 0 0, .bool em, .string (ofBytes tx), .int .i64 (at' + (s.size : Int))] 35)
                have hq7 : ((wr.setCell ⟨wo.heap.size, 2, none⟩ (.slice (some ⟨wo.heap.size + 1, 0, none⟩) 0 0)).alloc (.cells #[.int .i64 kd, .string (ofBytes nm), .slice (some ⟨wo.heap.size + 1, 0, none⟩) 0 0, .bool em, .string (ofBytes tx), .int .i64 (at' + (s.size : Int))] 35)).ownsRow w.heap.size 37 4 q'.2 q'.1.al.length (attrsCells q'.1.al) := by
                  rw [← List.append_assoc] at hq'
                  rcases List.mem_append.1 hq' with h' | h'
                  · exact row_below (hrl.2 q' h') hb7
                  · rw [List.mem_singleton.1 h']
                    simp only [List.length_map]
                    exact (Go.Joins.ownsRow_le hown6 (by omega)).alloc _
                exact hq7.kept hgr8 (rows_apart hq7 hr7 tok_apart)
            have hqs8 : (qs ++ [((⟨kd, nm, ([] : List AttrD).map (shA s.size), em, tx, at' + (s.size : Int)⟩ : TokD), Value.slice (some ⟨wo.heap.size + 1, 0, none⟩) 0 0)]).map Prod.fst = (ps2.take (i + 1)).map fun x => shT s.size x.1 := by
              rw [List.map_append, hqs, List.take_add_one, List.getElem?_eq_getElem hlt, List.map_append, HQ.out]
              simp only [Option.toList_some, List.map_cons, List.map_nil, shT]
              rw [Int.add_comm]
            have HREL : ConR w w1 w3 w8 (.slice A8 (ps ++ (qs ++ [((⟨kd, nm, ([] : List AttrD).map (shA s.size), em, tx, at' + (s.size : Int)⟩ : TokD), Value.slice (some ⟨wo.heap.size + 1, 0, none⟩) 0 0)])).length c8) ps (qs ++ [((⟨kd, nm, ([] : List AttrD).map (shA s.size), em, tx, at' + (s.size : Int)⟩ : TokD), Value.slice (some ⟨wo.heap.size + 1, 0, none⟩) 0 0)]) ps2 s.size (i + 1) := ⟨⟨hrow8, hqs8⟩, ⟨hkf8, hz8⟩, hbl8, by rw [hlen8]; exact hob8⟩
            clear hb7 hob2 hbl8 hkf8 hz8 hob8 hlen8 hrow8 hqs8 hown8 hgr8 hat8 hown6 hu6 hb6 hr6 m0 m1 m2 m3 m4 m5 mf n0 n1 n2 n3 n4 n5 nf hnew hxu
            go_wp2
            go_roundw
            case rel => exact ⟨i + 1, _, A8, c8, by omega, by go_num, by simp [Nat.add_assoc], HREL⟩
            case measure => simp [intOf]; omega
      · have hnews : ∀ j u, (attrsCells al)[j]? = some u → ((wo.alloc (.cells #[.int .i64 kd, .string (ofBytes nm), .slice Aq al.length cq, .bool em, .string (ofBytes tx), .int .i64 (at' + (s.size : Int))] 35)).alloc (.cells #[] 37)).cell? ((⟨g3, 0, none⟩ : Addr).add j) = some u := ((hown.alloc _).alloc _).cells (g := g3) (by rw [hv0]; rfl)
        injection hv0 with q1 q2 q3
        subst q1 q3
        go_wp2_with (at_builtin; refine wpList_append_own_at _ rfl (.tmp 100) (.tmp 102) 33 rfl (wo.heap.size + 1) 37 j0 (.agg #[.string ⟨#[]⟩, .string ⟨#[]⟩, .string ⟨#[]⟩, .int .i64 0]) 4 56 Tryz.underlying33 hj0 hj1 hj3 hj4 rfl (by decide) (.slice (some ⟨wo.heap.size + 1, 0, none⟩) 0 0) 0 [] rfl hmd ⟨g3, 0, none⟩ al.length cq (attrsCells al) rfl (attrsCells_len al) hnews (attrs_one al) (by unfold maxLen; omega) (by omega) (by simp) ?_; intro v5 w5 hown5 hgr5 _ hat5; rw [Nat.zero_add, List.nil_append] at hown5; obtain ⟨A5, c5, rfl⟩ := own_form hown5)
        have hb5 : Below wo.heap.size wo w5 := hbv.grown hgr5 (by simp; omega) (fun g' hg' => by simp [Value.ownBlock] at hg'; omega)
        have hu5 := hu2.grown hgr5 (by simp [Value.ownBlock])
        have hr1 : wo.ownsRow w.heap.size 35 6 (.slice A (ps.length + qs.length) cc) (ps.length + qs.length) (toksCells (ps ++ qs)) := by have := hrl.1; rwa [List.length_append] at this
        clear hmd hbv hu2 hub hbu hnews hgr5 hat5
        go_loopw [106] (fun j wx => ∃ jn : Nat, jn ≤ al.length ∧ j = .int .i64 jn ∧ wx.ownsRow (wo.heap.size + 1) 37 4 (.slice (A5) al.length c5) al.length (attrsCells (ShN s.size al jn)) ∧ UAt wx wo.heap.size kd nm (.slice (some ⟨g3, 0, none⟩) al.length cq) em tx (at' + (s.size : Int)) ∧ Below wo.heap.size wo wx) (fun j _ => al.length - (intOf j).toNat)
        case atStart => exact ⟨0, Nat.zero_le _, rfl, hown5, hu5, hb5⟩
        case round =>
          obtain ⟨jn, hjn, rfl, hxo, hxu, hxb⟩ := hrel
          by_cases hjl : jn < al.length
          case pos =>
            rcases hxo.2 with ⟨_, h00⟩ | ⟨g5, cap5, cur5, hv5, hB5, -⟩
            · omega
            · injection hv5 with r1 r2 r3
              subst r1 r3
              have hst := ShN_step s.size al jn hjl
              have hc5 := hxo.cellAt (jn * 4 + 3) (by omega)
              rw [hst.1] at hc5
              have hf5 := hxo.frozenAt (jn * 4 + 3)
              have hs5 := (hxo.stored (jn * 4 + 3) (.int .i64 ((al[jn]'hjl).at' + (s.size : Int)))).1
              rw [hst.2] at hs5
              have hat := HP2.out _ (List.getElem_mem hjl)
              obtain ⟨hat1, hat2⟩ := hat
              have hat3 : (al[jn]'hjl).at' ≤ 3000 := by omega
              have hu7 := hxu.below ((Below.refl (wo.heap.size + 1) wr).setCell (p := ⟨g5, jn * 4 + 3, none⟩) hB5 (.int .i64 ((al[jn]'hjl).at' + (s.size : Int)))) (Nat.lt_succ_self _)
              have hb7 := hxb.setCell (p := ⟨g5, jn * 4 + 3, none⟩) (by show wo.heap.size ≤ g5; omega) (.int .i64 ((al[jn]'hjl).at' + (s.size : Int)))
              have hjz2 : (jn : Int) < (al.length : Int) := by omega
              have hjz0 : (0 : Int) ≤ (jn : Int) := by omega
              generalize (al[jn]'hjl).at' = z at *
              have HS5 := Lib.hid hs5
              have HU7 := Lib.hid hu7
              clear hst hxo hxu hs5 hu7
              go_wp2
              go_roundw
              case rel => exact ⟨jn + 1, by omega, by go_num, HS5.out, HU7.out, hb7⟩
              case measure => simp [intOf]; omega
          case neg =>
            obtain rfl : jn = al.length := by omega
            have hsn : attrsCells (ShN s.size al al.length) = attrsCells ((al : List AttrD).map (shA s.size)) := congrArg attrsCells (ShN_end s.size al)
            rw [hsn] at hxo
            have hxz := hxb.size
            have hown6 := ownsRow_setCell_below hxo (a := ⟨wo.heap.size, 2, none⟩) (Nat.lt_succ_self _) (.slice (A5) al.length c5)
            have hu6 := hxu.set2 (.slice (A5) al.length c5)
            have hb6 : Below wo.heap.size wo (wr.setCell ⟨wo.heap.size, 2, none⟩ (.slice (A5) al.length c5)) := hxb.setCell (p := ⟨wo.heap.size, 2, none⟩) (Nat.le_refl _) _
            have hr6 := row_below hr1 hb6
            obtain ⟨⟨m0, m1, m2, m3, m4, m5⟩, mf⟩ := hxu.cells
            obtain ⟨⟨n0, n1, n2, n3, n4, n5⟩, nf⟩ := hu6.cells
            have hz6 : wo.heap.size ≤ (wr.setCell ⟨wo.heap.size, 2, none⟩ (.slice (A5) al.length c5)).heap.size := hb6.size
            have hnew := tok_new (wr.setCell ⟨wo.heap.size, 2, none⟩ (.slice (A5) al.length c5)) 35 (⟨kd, nm, (al : List AttrD).map (shA s.size), em, tx, at' + (s.size : Int)⟩, .slice (A5) al.length c5)
            rw [World.size_setCell] at hnew
            have hjz : ¬ (((al.length : Nat) : Int) < ((al.length : Nat) : Int)) := by omega
            clear hxo hxb hsn
            go_wp2_with (at_builtin; go_loud (refine wpList_append_own_at _ rfl (.tmp 122) (.tmp 124) 27 rfl w.heap.size 35 i0 (.agg #[.int .i64 0, .string ⟨#[]⟩, .slice none 0 0, .bool false, .string ⟨#[]⟩, .int .i64 0]) 6 80 Tryz.underlying27 hi0 hi1 hi3 hi4 rfl (by decide) (.slice A (ps.length + qs.length) cc) (ps.length + qs.length) (toksCells (ps ++ qs)) rfl (hr6.alloc _) ⟨wr.heap.size, 0, none⟩ 1 1 (tokCells (⟨kd, nm, (al : List AttrD).map (shA s.size), em, tx, at' + (s.size : Int)⟩, .slice (A5) al.length c5)) rfl rfl hnew (tok_one _ _ _ _) (by unfold maxLen; omega) (by omega) (by simp; have := hbl.size; have := hb6.size; simp at this; omega) ?_); intro v8 w8 hown8 hgr8 _ hat8; obtain ⟨A8, c8, rfl⟩ := own_form hown8)
            have hb7 := hb6.alloc hz6 (.cells #[.int .i64 kd, .string (ofBytes nm), .slice (A5) al.length c5, .bool em, .string (ofBytes tx), .int .i64 (at' + (s.size : Int))] 35)
            have hz7 := hb7.size
            have hblz := hbl.size
            have hob2 : ∀ g', (Value.slice A (ps.length + qs.length) cc).ownBlock = some g' → g' < w1.heap.size ∨ w3.heap.size ≤ g' := fun g' hg' => hob g' (by rw [List.length_append]; exact hg')
            have hbl8 : Below w.heap.size w w8 := (hbl.trans (hb7.mono hblz)).grown hgr8 (by omega) (fun g' hg' => (hr6.lt g' hg').1)
            have hkf8 : KeepsFrom w1.heap.size w3 w8 := (hkf.below hb7 hz3).grown hgr8 (by omega) hob2
            have hz8 : w3.heap.size ≤ w8.heap.size := by have := hgr8.size; omega
            have hob8 : ∀ g', (Value.slice A8 (ps.length + qs.length + 1) c8).ownBlock = some g' → g' < w1.heap.size ∨ w3.heap.size ≤ g' := fun g' hg' => by
              rcases hat8 with e8 | e8
              · exact hob2 g' (e8.symm.trans hg')
              · rw [e8] at hg'
                have := Option.some.inj hg'
                simp at this hz7
                right; omega
            have hlen8 : (ps ++ (qs ++ [((⟨kd, nm, (al : List AttrD).map (shA s.size), em, tx, at' + (s.size : Int)⟩ : TokD), Value.slice (A5) al.length c5)])).length = ps.length + qs.length + 1 := by simp [Nat.add_assoc]
            have hrow8 : TokRow w8 w.heap.size (.slice A8 (ps ++ (qs ++ [((⟨kd, nm, (al : List AttrD).map (shA s.size), em, tx, at' + (s.size : Int)⟩ : TokD), Value.slice (A5) al.length c5)])).length c8) (ps ++ (qs ++ [((⟨kd, nm, (al : List AttrD).map (shA s.size), em, tx, at' + (s.size : Int)⟩ : TokD), Value.slice (A5) al.length c5)])) := by
              refine ⟨?_, fun q' hq' => ?_⟩
              · rw [hlen8, ← List.append_assoc, toksCells_app]
                exact hown8
              · have hr7 := hr6.alloc (.cells #[.int .i64 kd, .string (ofBytes nm), .slice (A5) al.length c5, .bool em, .string (ofBytes tx), .int .i64 (at' + (s.size : Int))] 35)
                have hq7 : ((wr.setCell ⟨wo.heap.size, 2, none⟩ (.slice (A5) al.length c5)).alloc (.cells #[.int .i64 kd, .string (ofBytes nm), .slice (A5) al.length c5, .bool em, .string (ofBytes tx), .int .i64 (at' + (s.size : Int))] 35)).ownsRow w.heap.size 37 4 q'.2 q'.1.al.length (attrsCells q'.1.al) := by
                  rw [← List.append_assoc] at hq'
                  rcases List.mem_append.1 hq' with h' | h'
                  · exact row_below (hrl.2 q' h') hb7
                  · rw [List.mem_singleton.1 h']
                    simp only [List.length_map]
                    exact (Go.Joins.ownsRow_le hown6 (by omega)).alloc _
                exact hq7.kept hgr8 (rows_apart hq7 hr7 tok_apart)
            have hqs8 : (qs ++ [((⟨kd, nm, (al : List AttrD).map (shA s.size), em, tx, at' + (s.size : Int)⟩ : TokD), Value.slice (A5) al.length c5)]).map Prod.fst = (ps2.take (i + 1)).map fun x => shT s.size x.1 := by
              rw [List.map_append, hqs, List.take_add_one, List.getElem?_eq_getElem hlt, List.map_append, HQ.out]
              simp only [Option.toList_some, List.map_cons, List.map_nil, shT]
              rw [Int.add_comm]
            have HREL : ConR w w1 w3 w8 (.slice A8 (ps ++ (qs ++ [((⟨kd, nm, (al : List AttrD).map (shA s.size), em, tx, at' + (s.size : Int)⟩ : TokD), Value.slice (A5) al.length c5)])).length c8) ps (qs ++ [((⟨kd, nm, (al : List AttrD).map (shA s.size), em, tx, at' + (s.size : Int)⟩ : TokD), Value.slice (A5) al.length c5)]) ps2 s.size (i + 1) := ⟨⟨hrow8, hqs8⟩, ⟨hkf8, hz8⟩, hbl8, by rw [hlen8]; exact hob8⟩
            clear hb7 hob2 hbl8 hkf8 hz8 hob8 hlen8 hrow8 hqs8 hown8 hgr8 hat8 hown6 hu6 hb6 hr6 m0 m1 m2 m3 m4 m5 mf n0 n1 n2 n3 n4 n5 nf hnew hxu
            go_wp2
            go_roundw
            case rel => exact ⟨i + 1, _, A8, c8, by omega, by go_num, by simp [Nat.add_assoc], HREL⟩
            case measure => simp [intOf]; omega
    · obtain rfl : i = ps2.length := by omega
      have t4 := TokT_below hT hbl
      obtain ⟨L, hL⟩ : ∃ L, L = l ++ m.map (shT s.size) := ⟨_, rfl⟩
      have hmap : (ps ++ qs).map Prod.fst = L := by
        rw [hL, List.map_append, HPS.out, hqs, List.take_of_length_le (Nat.le_refl _), ← HPS2.out, List.map_map]
        rfl
      have hq := (tokens_of_row hrl).2
      rw [hmap] at hq
      have hp := hp3 wo (fun b h1 h2 => hkf b (by omega) h2)
      rw [← hL] at hp
      have e1 : L.length = l.length + m.length := by rw [hL]; simp
      have e2 : L.length = ps.length + qs.length := by rw [← hmap]; simp
      have hLs : L.length ≤ 1000000 := by
        have h1 := HSM.out.1
        have h2 := HSM2.out.1
        rw [e1]; omega
      have hLa : ∀ x ∈ L, x.al.length ≤ 1000000 := by
        intro x hx
        rw [hL] at hx
        rcases List.mem_append.1 hx with h | h
        · have := HSM.out.2 x h; omega
        · obtain ⟨y, hy, rfl⟩ := List.mem_map.1 h
          have := HSM2.out.2 y hy
          simp only [shT, List.length_map]
          omega
      have hblz := hbl.size
      have cS : ∀ wx, Below wo.heap.size wo wx → Calls Tryz.prog 8 #[.slice p3 (l.length + m.length) c3', .slice A (ps.length + qs.length) cc] wx fun e w' => e = .returned (.bool true) ∧ Below wx.heap.size wx w' := fun wx hb => by
        rw [← e1, ← e2]
        exact lref_same p3 A L c3' cc wx (hp.below hb) (hq.below hb) hLs hLa
      clear hp hq hL hmap e1 e2 hLs hLa hp3 hqs hrl hob hkf hrow23
      go_wp2_with fail
      refine (cA _ t4).mono ?_
      rintro e w5 ⟨rfl, b5⟩
      go_wp2_with fail
      refine (cS _ b5).mono ?_
      rintro e w6 ⟨rfl, b6⟩
      go_wp2
      go_ret
      have s5 := b5.size
      exact ⟨rfl, (hbl.trans (b5.mono hblz)).trans (b6.mono (by omega))⟩
end Go.Proofs.YtpphpnkijokffaaGreatDoor
