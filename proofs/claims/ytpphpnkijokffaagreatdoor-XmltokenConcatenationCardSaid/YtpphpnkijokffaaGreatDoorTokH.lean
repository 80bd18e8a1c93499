/- Package xmltoken: data: what it returns and leaves. -/
import Derived.Test.YtpphpnkijokffaaGreatDoorTokD
import Derived.Test.YtpphpnkijokffaaGreatDoorEscV
namespace Go.Proofs.YtpphpnkijokffaaGreatDoor
open Go.RowKit

/-- Within data: the cursor, the builder, and all else as it was. -/
def DatR (w wx : World) (p : Nat) (s : ByteArray) (i : Int) (acc : List UInt8) : Prop := Cur wx p s i ∧ Keep p w wx ∧ Bld w.heap.size w.heap.size acc wx
theorem DatR.cur {w wx : World} {p : Nat} {s : ByteArray} {i : Int} {acc : List UInt8} (h : DatR w wx p s i acc) : Cur wx p s i := h.1
theorem DatR.keep {w wx : World} {p : Nat} {s : ByteArray} {i : Int} {acc : List UInt8} (h : DatR w wx p s i acc) : Keep p w wx := h.2.1
theorem DatR.bld {w wx : World} {p : Nat} {s : ByteArray} {i : Int} {acc : List UInt8} (h : DatR w wx p s i acc) : Bld w.heap.size w.heap.size acc wx := h.2.2
theorem DatR.more {w wx wy : World} {p : Nat} {s : ByteArray} {i : Int} {acc : List UInt8} (h : DatR w wx p s i acc) (b : Below wx.heap.size wx wy) : DatR w wy p s i acc := ⟨h.1.keep b, h.2.1.more b, h.2.2.below b⟩
theorem DatR.drew {w wx : World} {p : Nat} {s : ByteArray} {i : Int} {acc : List UInt8} (h : DatR w wx p s i acc) : DatR w wx.drew p s i acc := h.more (Below.refl _ _).drew
theorem DatR.low {w wx wy : World} {p : Nat} {s : ByteArray} {i : Int} {acc acc' : List UInt8} (h : DatR w wx p s i acc) (b : Below w.heap.size wx wy) (hB : Bld w.heap.size w.heap.size acc' wy) (hp : p < w.heap.size) : DatR w wy p s i acc' := ⟨h.1.low b hp, h.2.1.low b, hB⟩
theorem DatR.set {w wx : World} {p : Nat} {s : ByteArray} {i : Int} {acc : List UInt8} (h : DatR w wx p s i acc) (hp : p < w.heap.size) (k : Int) : DatR w (wx.setCell ⟨p, 1, none⟩ (.int .i64 k)) p s k acc := ⟨h.1.set k, h.2.1.set 1 _, h.2.2.set hp 1 _⟩
theorem sp_false (l : List UInt8) : spMap false l = l := rfl
theorem tok_lines0 (s : ByteArray) (w : World) (hs : s.size ≤ 1000000) (hT : TokT w) :
    Calls Tryz.prog 27 #[.string s] w fun e w' => e = .returned (.string (ofBytes (spMap false (linesP s.data.toList)))) ∧ Below w.heap.size w w' := tok_lineEnds s w hs hT
set_option maxRecDepth 100000 in
set_option maxHeartbeats 16000000 in
theorem cur_data_false (p : Nat) (s st : ByteArray) (k : Nat) (S : List UInt8) (w : World) (hC : Cur w p s k) (hk : k ≤ s.size) (hs : s.size ≤ 1000000) (hS : Stops S) (hst : st.data.toList = S) (hz1 : 1 ≤ st.size) (hz2 : st.size ≤ 10) (hT : TkT p w) :
    Calls Tryz.prog 29 #[.pointer (some ⟨p, 0, none⟩), .string st, .func (.func 27) #[] #[]] w fun e w' => e = .returned (.tuple #[.string (ofBytes (contP s.data.toList k (stopAt S s.data.toList k) false).1), .int .i64 (contP s.data.toList k (stopAt S s.data.toList k) false).2.2]) ∧ Cur w' p s (contP s.data.toList k (stopAt S s.data.toList k) false).2.1 ∧ Keep p w w' := by
  have hsl : s.data.toList.length = s.size := by simp
  have HSL := Lib.hid hsl
  obtain ⟨j, hj⟩ : ∃ j, stopAt S s.data.toList k = j := ⟨_, rfl⟩
  have hjl := stopAt_le S s.data.toList k (by omega)
  rw [hj] at hjl ⊢
  have HJ := Lib.hid hj
  have hfr := bld_fresh w
  have hpw := hC.lt
  have hS38 : S.contains 38 = false := by
    rw [Bool.eq_false_iff]
    intro hc
    rcases hS 38 (by simpa using hc) with h | h | h <;> exact absurd h (by decide)
  have HS38 := Lib.hid hS38
  have HS := Lib.hid hS
  have hD0 : DatR w (w.alloc (.cells #[.pointer none, .slice none 0 0] 77)) p s k [] := ⟨hC.keep ((Below.refl _ _).alloc (Nat.le_refl _) _), (Keep.refl _ _).alloc _, hfr⟩
  obtain ⟨CS, hCS⟩ : ∃ CS, CS = (⟨#[38]⟩ : ByteArray) ++ st := ⟨_, rfl⟩
  have hCl : CS.data.toList = 38 :: S := by rw [hCS, bapp, hst]; rfl
  have hCz : CS.size = st.size + 1 := by rw [hCS, ByteArray.size_append, show (⟨#[38]⟩ : ByteArray).size = 1 from rfl]; omega
  have hal : ∀ c ∈ CS.data.toList, c.toNat < 128 := by
    intro c hc
    rw [hCl] at hc
    rcases List.mem_cons.1 hc with rfl | hc
    · decide
    · rcases hS c hc with rfl | rfl | rfl <;> decide
  have HCS := Lib.hid hCS
  clear hsl hj hfr hC hS38 hS hCS hst
  go_enter Tryz.func29, Tryz.ntmps29
  go_wp2
  go_loopw [] (fun wr => ∃ (i f : Nat) (acc : List UInt8), k ≤ i ∧ i ≤ j ∧ (contP s.data.toList k j false = contF s.data.toList j false f i acc ∧ j - i < f) ∧ acc.length ≤ 4 * i ∧ DatR w wr p s i acc) (fun wr => s.size - (intOf ((wr.cell? ⟨p, 1, none⟩).getD (.bool false))).toNat)
  case atStart => exact ⟨k, j + 1, [], Nat.le_refl _, hjl.1, ⟨rfl, by omega⟩, by simp, hD0⟩
  case round =>
    obtain ⟨i, f, acc, hki, hij, ⟨hrel, hf⟩, hacc, hD⟩ := hrel
    clear hD0
    have M1 := Lib.hid (hD.1.c1)
    have hil : i ≤ s.data.toList.length := by omega
    have hmid : stopAt S s.data.toList i = j := (stopAt_mid S _ k i hki (by rw [HJ.out]; exact hij) (by omega)).trans HJ.out
    obtain ⟨hsp1, hsp2⟩ := stopAt_spec S s.data.toList _ i (Nat.le_refl _)
    rw [hmid] at hsp1 hsp2
    have cR : ∀ wx, Cur wx p s i → _ := fun wx h => cur_rest p s i wx h (by have := HSL.out; omega)
    have hRl : (ofBytes (s.data.toList.drop i)).data.toList = s.data.toList.drop i := ofBytes_list _
    have hRz : (ofBytes (s.data.toList.drop i)).size = s.size - i := by rw [ofBytes_size, List.length_drop, HSL.out]
    have cI : ∀ wx, _ := fun wx => idx_any (ofBytes (s.data.toList.drop i)) CS wx (by omega) (by omega) (by omega) hal
    rw [hRl, hCl] at cI
    have hi6 : (i : Int) ≤ 1000000 := by have := HSL.out; omega
    have hi0 : (0 : Int) ≤ (i : Int) := by omega
    have main : ∀ (n : Nat) (A : List UInt8), i + n ≤ s.data.toList.length → A = spMap false (linesP ((s.data.toList.drop i).take n)) → ((ofBytes A).size ≤ n ∧ A.length ≤ n ∧ A.length ≤ 1000000) := by
      intro n A hn hA
      have h1 := linesP_len ((s.data.toList.drop i).take n)
      have h2 : ((s.data.toList.drop i).take n).length ≤ n := List.length_take_le _ _
      have h3 := spMap_len false (linesP ((s.data.toList.drop i).take n))
      have h4 : A.length ≤ n := by rw [hA]; first | omega | (rw [h3]; omega)
      exact ⟨by rw [ofBytes_size]; exact h4, h4, by have := HSL.out; omega⟩
    rcases ia_cases (38 :: S) (s.data.toList.drop i) with ⟨h1, h2⟩ | ⟨n, h1, hn, h3, h4⟩
    · have hn0 : ((s.data.toList.drop i).take (s.data.toList.length - i)) = s.data.toList.drop i := List.take_of_length_le (by rw [List.length_drop]; omega)
      have hjj : j = s.data.toList.length := by
        rw [← hmid, stopAt_run S _ (s.data.toList.length - i) i (by omega) (fun x hx => by rw [hn0] at hx; have := h2 x hx; rw [List.contains_cons, Bool.or_eq_false_iff] at this; exact this.2), show i + (s.data.toList.length - i) = s.data.toList.length by omega, stopAt_end _ _ _ (Nat.le_refl _)]
      have hno38 : ∀ q, i ≤ q → q < j → ∀ h : q < s.data.toList.length, s.data.toList[q] ≠ 38 := by
        intro q hq1 hq2 hq3 he
        have hmem : s.data.toList[q] ∈ s.data.toList.drop i := List.mem_drop_iff_getElem.2 ⟨q - i, by omega, by simp [show i + (q - i) = q by omega]⟩
        have := h2 _ hmem
        rw [he] at this
        simp at this
      have HR := Lib.hid (hrel.trans (data_end s.data.toList false i j f acc hij (by omega) hf hno38))
      have hjn : j - i = s.size - i := by have := HSL.out; omega
      rw [hjn] at HR
      rw [h1] at cI
      have hb0 : hasP s.data.toList ((i + (s.size - i) : Nat) : Int) [38] = false := by
        rw [← pre_has, List.drop_eq_nil_of_le (by have := HSL.out; omega)]; rfl
      obtain ⟨n, hnd⟩ : ∃ n, s.size - i = n := ⟨_, rfl⟩
      have hRz2 : ((ofBytes (s.data.toList.drop i)).size : Int) = (n : Int) := by omega
      rw [hnd] at HR hb0
      have hin : i + n = s.size := by have := HSL.out; omega
      obtain ⟨m1, m2, m3⟩ := main n _ (by have := HSL.out; omega) rfl
      have hst : ∀ wx, _ := fun wx => slice_to (ofBytes (s.data.toList.drop i)) (n : Int) (by omega) (by omega) wx
      rw [Int.toNat_natCast, kext, hRl, List.drop_zero, Nat.sub_zero] at hst
      have cF : ∀ wx, TokT wx → _ := fun wx h => tok_lines0 (ofBytes ((s.data.toList.drop i).take n)) wx (by rw [ofBytes_size]; have := List.length_take_le n (s.data.toList.drop i); have := HSL.out; omega) h
      rw [ofBytes_list] at cF
      obtain ⟨A, hA⟩ : ∃ A, A = spMap false (linesP ((s.data.toList.drop i).take n)) := ⟨_, rfl⟩
      rw [← hA] at cF m1 m2 m3
      first | rw [← hA] at HR | rw [← hA] at hg2
      have hBA : (acc ++ A).length ≤ 4 * i + n := by rw [List.length_append]; omega
      have cW : ∀ wx, Bld w.heap.size w.heap.size acc wx → w.heap.size ≤ wx.heap.size → _ := fun wx h1 h2 => bld_WriteString w.heap.size w.heap.size acc (ofBytes A) wx h1 (by have := HSL.out; omega) h2
      rw [ofBytes_list] at cW
      have cB : ∀ wx, Cur wx p s ((i : Int) + (n : Int)) → _ := fun wx h => cur_starts p s ⟨#[38]⟩ (i + n) _ wx (by rw [show ((i + n : Nat) : Int) = (i : Int) + (n : Int) by omega]; exact h) (by have := HSL.out; omega) hb0
      have cT : ∀ wx, Bld w.heap.size w.heap.size (acc ++ A) wx → w.heap.size ≤ wx.heap.size → _ := fun wx h1 h2 => bld_String w.heap.size w.heap.size (acc ++ A) wx h1 h2
      have hn6 : (n : Int) ≤ 1000000 := by have := HSL.out; omega
      generalize ofBytes A = AS at *
      generalize ofBytes ((s.data.toList.drop i).take n) = MS at *
      clear hA
      have hjs : (j : Int) = (i : Int) + (n : Int) := by have := HSL.out; omega
      rw [hjs] at HR
      clear hno38 hsp1 hsp2 h1 h2 hn0 hjj hmid hRl hjn hnd hRz main hrel hjs
      generalize ofBytes (s.data.toList.drop i) = R at *
      go_wp2_with fail
      refine (cR _ hD.1).mono ?_
      rintro e w1 ⟨rfl, b1⟩
      have D1 := Lib.hid (hD.more b1)
      go_wp2_with fail
      rw [← HCS.out]
      refine (cI _).mono ?_
      rintro e w2 ⟨rfl, b2⟩
      have D2 := Lib.hid (DatR.more D1.out b2)
      go_wp2_with fail
      refine (cR _ (DatR.cur D2.out)).mono ?_
      rintro e w3 ⟨rfl, b3⟩
      have D3 := Lib.hid (DatR.more D2.out b3)
      clear b1 b2 b3
      go_wp2_with fail
      refine (cR _ (DatR.cur D3.out)).mono ?_
      rintro e w4 ⟨rfl, b4⟩
      have D4 := Lib.hid (DatR.more D3.out b4)
      have t4 := (hT.keep (DatR.keep D4.out)).tabs
      go_wp2_with fail
      refine (cF _ t4).mono ?_
      rintro e w5 ⟨rfl, b5⟩
      have D5 := Lib.hid (DatR.more D4.out b5)
      have z5 := (DatR.keep D5.out).size
      go_wp2_with fail
      refine (cW _ (DatR.bld D5.out) z5).mono ?_
      rintro e w6 ⟨rfl, B6, b6⟩
      have D6 := Lib.hid (DatR.low D5.out b6 B6 hpw)
      have D7 := Lib.hid (DatR.set D6.out hpw ((i : Int) + (n : Int)))
      have q1 := Cur.c1 (DatR.cur D6.out)
      have f1 := Cur.f1 (DatR.cur D6.out)
      clear b4 t4 b5 z5 b6 B6
      go_wp2_with fail
      refine (cB _ (DatR.cur D7.out)).mono ?_
      rintro e w8 ⟨rfl, b8⟩
      have D8 := Lib.hid (DatR.more D7.out b8)
      have z8 := (DatR.keep D8.out).size
      clear b8 q1 f1
      go_wp2_with fail
      refine (cT _ (DatR.bld D8.out) z8).mono ?_
      rintro e w9 ⟨rfl, B9, b9⟩
      have D9 := Lib.hid (DatR.low D8.out b9 B9 hpw)
      clear b9 B9
      go_wp2
      exact bodyPost_ret (v := .tuple #[.string (ofBytes (acc ++ A)), .int .i64 0]) (by simp [results, Tryz.results29, go_sem]) rfl ⟨by rw [HR.out], by rw [HR.out]; exact D9.out.1, D9.out.2.1⟩
    · have hnl : i + n < s.data.toList.length := by rw [List.length_drop] at hn; omega
      have hg : (s.data.toList.drop i)[n]'hn = s.data.toList[i + n]'hnl := List.getElem_drop
      rw [hg] at h3
      have hgd : s.data.toList.getD (i + n) 0 = s.data.toList[i + n]'hnl := by rw [List.getD_eq_getElem?_getD, List.getElem?_eq_getElem hnl]; rfl
      have hbef : ∀ q, i ≤ q → q < i + n → ∀ h : q < s.data.toList.length, (38 :: S).contains s.data.toList[q] = false := by
        intro q hq1 hq2 hq3
        have hq4 : q - i < ((s.data.toList.drop i).take n).length := by rw [List.length_take, List.length_drop]; omega
        have hmem : s.data.toList[q] ∈ (s.data.toList.drop i).take n := List.mem_iff_getElem.2 ⟨q - i, hq4, by rw [List.getElem_take, List.getElem_drop]; simp [show i + (q - i) = q by omega]⟩
        exact h4 _ hmem
      have hno38 : ∀ q, i ≤ q → q < i + n → ∀ h : q < s.data.toList.length, s.data.toList[q] ≠ 38 := by
        intro q hq1 hq2 hq3 he
        have := hbef q hq1 hq2 hq3
        rw [he] at this
        simp at this
      have hrun : stopAt S s.data.toList i = stopAt S s.data.toList (i + n) := stopAt_run S _ n i (by omega) (fun x hx => by have := h4 x hx; rw [List.contains_cons, Bool.or_eq_false_iff] at this; exact this.2)
      rw [h1] at cI
      obtain ⟨m1, m2, m3⟩ := main n _ (by omega) rfl
      have hn0 : (0 : Int) ≤ (n : Int) := by omega
      have hn1 : ¬ (n : Int) < 0 := by omega
      have hnR : n ≤ (ofBytes (s.data.toList.drop i)).size := by rw [hRz]; have := HSL.out; omega
      by_cases h38 : s.data.toList[i + n]'hnl = 38
      · have hnj : i + n < j := by
          rcases Nat.lt_or_ge (i + n) j with h | h
          · exact h
          · exfalso
            have hle := stopAt_le S s.data.toList (i + n) (by omega)
            have he : j = i + n := by omega
            have := hsp2 (by omega)
            simp only [he] at this
            rw [h38, HS38.out] at this
            exact absurd this (by decide)
        obtain ⟨g, hg1, hg2⟩ := data_amp s.data.toList false i (i + n) j f acc (by omega) hnj (by omega) hf hno38 (by rw [hgd]; exact h38)
        obtain ⟨hrt1, hrt2⟩ := refAt_take S s.data.toList HS.out (i + n) j hnj (by omega) hsp2
        rw [hrt1, show i + n - i = n by omega] at hg2
        have hb0 : hasP s.data.toList ((i + n : Nat) : Int) [38] = true := hasP_yes1 (by rw [List.getElem?_eq_getElem hnl, h38])
        have cX : ∀ wx, EscT wx → _ := fun wx h => esc_Reference s ((i + n : Nat) : Int) wx (by omega) h
        rw [refP_at s.data.toList (i + n) hnl (by rw [hgd]; exact h38)] at cX
        have hst : ∀ wx, _ := fun wx => slice_to (ofBytes (s.data.toList.drop i)) (n : Int) (by omega) (by omega) wx
        rw [Int.toNat_natCast, kext, hRl, List.drop_zero, Nat.sub_zero] at hst
        have cF : ∀ wx, TokT wx → _ := fun wx h => tok_lines0 (ofBytes ((s.data.toList.drop i).take n)) wx (by rw [ofBytes_size]; have := List.length_take_le n (s.data.toList.drop i); have := HSL.out; omega) h
        rw [ofBytes_list] at cF
        obtain ⟨A, hA⟩ : ∃ A, A = spMap false (linesP ((s.data.toList.drop i).take n)) := ⟨_, rfl⟩
        rw [← hA] at cF m1 m2 m3
        first | rw [← hA] at HR | rw [← hA] at hg2
        have hBA : (acc ++ A).length ≤ 4 * i + n := by rw [List.length_append]; omega
        have cW : ∀ wx, Bld w.heap.size w.heap.size acc wx → w.heap.size ≤ wx.heap.size → _ := fun wx h1 h2 => bld_WriteString w.heap.size w.heap.size acc (ofBytes A) wx h1 (by have := HSL.out; omega) h2
        rw [ofBytes_list] at cW
        have cB : ∀ wx, Cur wx p s ((i : Int) + (n : Int)) → _ := fun wx h => cur_starts p s ⟨#[38]⟩ (i + n) _ wx (by rw [show ((i + n : Nat) : Int) = (i : Int) + (n : Int) by omega]; exact h) (by have := HSL.out; omega) hb0
        have cT : ∀ wx, Bld w.heap.size w.heap.size (acc ++ A) wx → w.heap.size ≤ wx.heap.size → _ := fun wx h1 h2 => bld_String w.heap.size w.heap.size (acc ++ A) wx h1 h2
        have hn6 : (n : Int) ≤ 1000000 := by have := HSL.out; omega
        generalize ofBytes A = AS at *
        generalize ofBytes ((s.data.toList.drop i).take n) = MS at *
        clear hA
        rcases refAt_cases s.data.toList (i + n) with hr | ⟨r, jj, hr, g1, g2, g3, g4, g5⟩
        · rw [hr] at cX hg2
          rw [if_neg (by decide)] at hg2
          have HR := Lib.hid (hrel.trans hg2)
          simp only at cX
          rw [show ((i + n : Nat) : Int) = (i : Int) + (n : Int) by omega] at cX HR
          clear hno38 hsp1 hsp2 h1 h3 h4 hmid hRl hRz main hrel hg hg1 hg2 hgd hbef hrun hrt1 hrt2 h38 hr hn
          generalize ofBytes (s.data.toList.drop i) = R at *
          go_wp2_with fail
          refine (cR _ hD.1).mono ?_
          rintro e w1 ⟨rfl, b1⟩
          have D1 := Lib.hid (hD.more b1)
          go_wp2_with fail
          rw [← HCS.out]
          refine (cI _).mono ?_
          rintro e w2 ⟨rfl, b2⟩
          have D3 := Lib.hid (DatR.more D1.out b2)
          obtain ⟨w3, rfl⟩ : ∃ w3, w3 = w2 := ⟨_, rfl⟩
          clear b1 b2
          go_wp2_with fail
          refine (cR _ (DatR.cur D3.out)).mono ?_
          rintro e w4 ⟨rfl, b4⟩
          have D4 := Lib.hid (DatR.more D3.out b4)
          have t4 := (hT.keep (DatR.keep D4.out)).tabs
          go_wp2_with fail
          refine (cF _ t4).mono ?_
          rintro e w5 ⟨rfl, b5⟩
          have D5 := Lib.hid (DatR.more D4.out b5)
          have z5 := (DatR.keep D5.out).size
          go_wp2_with fail
          refine (cW _ (DatR.bld D5.out) z5).mono ?_
          rintro e w6 ⟨rfl, B6, b6⟩
          have D6 := Lib.hid (DatR.low D5.out b6 B6 hpw)
          have D7 := Lib.hid (DatR.set D6.out hpw ((i : Int) + (n : Int)))
          have q1 := Cur.c1 (DatR.cur D6.out)
          have f1 := Cur.f1 (DatR.cur D6.out)
          clear b4 t4 b5 z5 b6 B6
          go_wp2_with fail
          refine (cB _ (DatR.cur D7.out)).mono ?_
          rintro e w8 ⟨rfl, b8⟩
          have D8 := Lib.hid (DatR.more D7.out b8)
          have c0 := Cur.c0 (DatR.cur D8.out)
          have c1 := Cur.c1 (DatR.cur D8.out)
          have hp8 := Cur.lt (DatR.cur D8.out)
          have t8 : EscT w8.drew := EscT_below (hT.keep (DatR.keep D8.out)).tabs.2.1 (Below.refl _ _).drew
          clear b8 q1 f1
          go_wp2
          go_region_held3 (fun w' => w'.cell? ⟨p, 0, none⟩ = some (.string s) ∧ w'.cell? ⟨p, 1, none⟩ = some (.int .i64 ((i : Int) + (n : Int)))) (first | exact ⟨c0, c1⟩ | exact hS9) (first | (go_at_call 48; refine (cX w8.drew t8).mono ?_; rintro e w9 ⟨rfl, b9⟩; have hS9 : w9.cell? ⟨p, 0, none⟩ = some (.string s) ∧ w9.cell? ⟨p, 1, none⟩ = some (.int .i64 ((i : Int) + (n : Int))) := ⟨(b9.cell (p := ⟨p, 0, none⟩) hp8).trans c0, (b9.cell (p := ⟨p, 1, none⟩) hp8).trans c1⟩))
          have D9 := Lib.hid (DatR.more (DatR.drew D8.out) b9)
          clear hS9 b9 t8 c0 c1 cX
          go_wp2
          exact bodyPost_ret (v := .tuple #[.string ⟨#[]⟩, .int .i64 12]) (by simp [results, Tryz.results29, go_sem]) rfl ⟨by rw [HR.out]; rfl, by rw [HR.out]; exact D9.out.1, D9.out.2.1⟩
        · rw [hr] at cX hg2 hrt2
          rw [if_pos rfl] at hg2
          have hjj := hrt2 rfl
          rw [Int.toNat_natCast] at hg2
          have HR := Lib.hid (hrel.trans hg2)
          simp only at cX hjj
          have hebl := eb_len r
          have W2 : ∀ wx, Bld w.heap.size w.heap.size (acc ++ A) wx → w.heap.size ≤ wx.heap.size → _ := fun wx h1 h2 => bld_WriteRune w.heap.size w.heap.size (acc ++ A) r (by omega) (by omega) wx h1 (by rw [List.length_append]; omega) h2
          rw [enc_eb r g3] at W2
          have hal3 : (acc ++ A ++ eb r).length ≤ 4 * jj := by rw [List.length_append, List.length_append]; omega
          have hjjl : jj ≤ j := by omega
          have hfg : j - jj < g := by omega
          have hjk : k ≤ jj := by omega
          have hm9 : i < jj ∧ jj ≤ s.size := by have := HSL.out; omega
          rw [show ((i + n : Nat) : Int) = (i : Int) + (n : Int) by omega] at cX
          clear hno38 hsp1 hsp2 h1 h3 h4 hmid hRl hRz main hrel hg hg1 hg2 hgd hbef hrun hrt1 hrt2 h38 hr hn g3 hebl
          generalize ofBytes (s.data.toList.drop i) = R at *
          go_wp2_with fail
          refine (cR _ hD.1).mono ?_
          rintro e w1 ⟨rfl, b1⟩
          have D1 := Lib.hid (hD.more b1)
          go_wp2_with fail
          rw [← HCS.out]
          refine (cI _).mono ?_
          rintro e w2 ⟨rfl, b2⟩
          have D3 := Lib.hid (DatR.more D1.out b2)
          obtain ⟨w3, rfl⟩ : ∃ w3, w3 = w2 := ⟨_, rfl⟩
          clear b1 b2
          go_wp2_with fail
          refine (cR _ (DatR.cur D3.out)).mono ?_
          rintro e w4 ⟨rfl, b4⟩
          have D4 := Lib.hid (DatR.more D3.out b4)
          have t4 := (hT.keep (DatR.keep D4.out)).tabs
          go_wp2_with fail
          refine (cF _ t4).mono ?_
          rintro e w5 ⟨rfl, b5⟩
          have D5 := Lib.hid (DatR.more D4.out b5)
          have z5 := (DatR.keep D5.out).size
          go_wp2_with fail
          refine (cW _ (DatR.bld D5.out) z5).mono ?_
          rintro e w6 ⟨rfl, B6, b6⟩
          have D6 := Lib.hid (DatR.low D5.out b6 B6 hpw)
          have D7 := Lib.hid (DatR.set D6.out hpw ((i : Int) + (n : Int)))
          have q1 := Cur.c1 (DatR.cur D6.out)
          have f1 := Cur.f1 (DatR.cur D6.out)
          clear b4 t4 b5 z5 b6 B6
          go_wp2_with fail
          refine (cB _ (DatR.cur D7.out)).mono ?_
          rintro e w8 ⟨rfl, b8⟩
          have D8 := Lib.hid (DatR.more D7.out b8)
          generalize acc ++ A ++ eb r = E3 at *
          generalize (Lib.runeCells r).length = RL at *
          have c0 := Cur.c0 (DatR.cur D8.out)
          have c1 := Cur.c1 (DatR.cur D8.out)
          have hp8 := Cur.lt (DatR.cur D8.out)
          have t8 : EscT w8.drew := EscT_below (hT.keep (DatR.keep D8.out)).tabs.2.1 (Below.refl _ _).drew
          clear b8 q1 f1
          go_wp2
          go_region_held3 (fun w' => w'.cell? ⟨p, 0, none⟩ = some (.string s) ∧ w'.cell? ⟨p, 1, none⟩ = some (.int .i64 ((i : Int) + (n : Int)))) (first | exact ⟨c0, c1⟩ | exact hS9) (first | (go_at_call 48; refine (cX w8.drew t8).mono ?_; rintro e w9 ⟨rfl, b9⟩; have hS9 : w9.cell? ⟨p, 0, none⟩ = some (.string s) ∧ w9.cell? ⟨p, 1, none⟩ = some (.int .i64 ((i : Int) + (n : Int))) := ⟨(b9.cell (p := ⟨p, 0, none⟩) hp8).trans c0, (b9.cell (p := ⟨p, 1, none⟩) hp8).trans c1⟩))
          have D9 := Lib.hid (DatR.more (DatR.drew D8.out) b9)
          clear hS9 b9 t8 c0 c1 cX
          have hz9 : w.heap.size ≤ w9.heap.size := (DatR.keep D9.out).size
          go_wp2_with fail
          refine (W2 _ (DatR.bld D9.out) hz9).mono ?_
          rintro e w10 ⟨rfl, B10, b10⟩
          have D10 := Lib.hid (DatR.low D9.out b10 B10 hpw)
          have D11 := Lib.hid (DatR.set D10.out hpw (jj : Int))
          have q1 := Cur.c1 (DatR.cur D10.out)
          have f1 := Cur.f1 (DatR.cur D10.out)
          clear b10 B10 W2
          go_wp2
          go_roundw
          case rel => exact ⟨jj, g, E3, hjk, hjjl, ⟨HR.out, hfg⟩, hal3, D11.out⟩
          case measure => rw [(DatR.cur D11.out).c1, M1.out]; simp [intOf]; omega
      · have hinS : S.contains (s.data.toList[i + n]'hnl) = true := by
          rw [List.contains_cons, Bool.or_eq_true] at h3
          rcases h3 with h | h
          · exact absurd (by simpa using h) h38
          · exact h
        have hjj : j = i + n := by rw [← hmid, hrun, stopAt_hit S _ _ hnl hinS]
        have hb0 : hasP s.data.toList ((i + n : Nat) : Int) [38] = false := hasP_no [] (c := s.data.toList[i + n]'hnl) (by rw [List.getElem?_eq_getElem hnl]) h38
        have HR := Lib.hid (hrel.trans (data_end s.data.toList false i j f acc hij (by omega) hf (fun q a b => hno38 q a (by omega))))
        have hjn : j - i = n := by omega
        have hjs : (j : Int) = (i : Int) + (n : Int) := by omega
        rw [hjn, hjs] at HR
        have hst : ∀ wx, _ := fun wx => slice_to (ofBytes (s.data.toList.drop i)) (n : Int) (by omega) (by omega) wx
        rw [Int.toNat_natCast, kext, hRl, List.drop_zero, Nat.sub_zero] at hst
        have cF : ∀ wx, TokT wx → _ := fun wx h => tok_lines0 (ofBytes ((s.data.toList.drop i).take n)) wx (by rw [ofBytes_size]; have := List.length_take_le n (s.data.toList.drop i); have := HSL.out; omega) h
        rw [ofBytes_list] at cF
        obtain ⟨A, hA⟩ : ∃ A, A = spMap false (linesP ((s.data.toList.drop i).take n)) := ⟨_, rfl⟩
        rw [← hA] at cF m1 m2 m3
        first | rw [← hA] at HR | rw [← hA] at hg2
        have hBA : (acc ++ A).length ≤ 4 * i + n := by rw [List.length_append]; omega
        have cW : ∀ wx, Bld w.heap.size w.heap.size acc wx → w.heap.size ≤ wx.heap.size → _ := fun wx h1 h2 => bld_WriteString w.heap.size w.heap.size acc (ofBytes A) wx h1 (by have := HSL.out; omega) h2
        rw [ofBytes_list] at cW
        have cB : ∀ wx, Cur wx p s ((i : Int) + (n : Int)) → _ := fun wx h => cur_starts p s ⟨#[38]⟩ (i + n) _ wx (by rw [show ((i + n : Nat) : Int) = (i : Int) + (n : Int) by omega]; exact h) (by have := HSL.out; omega) hb0
        have cT : ∀ wx, Bld w.heap.size w.heap.size (acc ++ A) wx → w.heap.size ≤ wx.heap.size → _ := fun wx h1 h2 => bld_String w.heap.size w.heap.size (acc ++ A) wx h1 h2
        have hn6 : (n : Int) ≤ 1000000 := by have := HSL.out; omega
        generalize ofBytes A = AS at *
        generalize ofBytes ((s.data.toList.drop i).take n) = MS at *
        clear hA
        clear hno38 hsp1 hsp2 h1 h3 h4 hmid hRl hjn hRz main hrel hg hgd hbef hrun h38 hinS hn hjs
        generalize ofBytes (s.data.toList.drop i) = R at *
        go_wp2_with fail
        refine (cR _ hD.1).mono ?_
        rintro e w1 ⟨rfl, b1⟩
        have D1 := Lib.hid (hD.more b1)
        go_wp2_with fail
        rw [← HCS.out]
        refine (cI _).mono ?_
        rintro e w2 ⟨rfl, b2⟩
        have D3 := Lib.hid (DatR.more D1.out b2)
        obtain ⟨w3, rfl⟩ : ∃ w3, w3 = w2 := ⟨_, rfl⟩
        clear b1 b2
        go_wp2_with fail
        refine (cR _ (DatR.cur D3.out)).mono ?_
        rintro e w4 ⟨rfl, b4⟩
        have D4 := Lib.hid (DatR.more D3.out b4)
        have t4 := (hT.keep (DatR.keep D4.out)).tabs
        go_wp2_with fail
        refine (cF _ t4).mono ?_
        rintro e w5 ⟨rfl, b5⟩
        have D5 := Lib.hid (DatR.more D4.out b5)
        have z5 := (DatR.keep D5.out).size
        go_wp2_with fail
        refine (cW _ (DatR.bld D5.out) z5).mono ?_
        rintro e w6 ⟨rfl, B6, b6⟩
        have D6 := Lib.hid (DatR.low D5.out b6 B6 hpw)
        have D7 := Lib.hid (DatR.set D6.out hpw ((i : Int) + (n : Int)))
        have q1 := Cur.c1 (DatR.cur D6.out)
        have f1 := Cur.f1 (DatR.cur D6.out)
        clear b4 t4 b5 z5 b6 B6
        go_wp2_with fail
        refine (cB _ (DatR.cur D7.out)).mono ?_
        rintro e w8 ⟨rfl, b8⟩
        have D8 := Lib.hid (DatR.more D7.out b8)
        have z8 := (DatR.keep D8.out).size
        clear b8 q1 f1
        go_wp2_with fail
        refine (cT _ (DatR.bld D8.out) z8).mono ?_
        rintro e w9 ⟨rfl, B9, b9⟩
        have D9 := Lib.hid (DatR.low D8.out b9 B9 hpw)
        clear b9 B9
        go_wp2
        exact bodyPost_ret (v := .tuple #[.string (ofBytes (acc ++ A)), .int .i64 0]) (by simp [results, Tryz.results29, go_sem]) rfl ⟨by rw [HR.out], by rw [HR.out]; exact D9.out.1, D9.out.2.1⟩
set_option maxRecDepth 100000 in
set_option maxHeartbeats 16000000 in
theorem cur_data_true (p : Nat) (s st : ByteArray) (k : Nat) (S : List UInt8) (w : World) (hC : Cur w p s k) (hk : k ≤ s.size) (hs : s.size ≤ 1000000) (hS : Stops S) (hst : st.data.toList = S) (hz1 : 1 ≤ st.size) (hz2 : st.size ≤ 10) (hT : TkT p w) :
    Calls Tryz.prog 29 #[.pointer (some ⟨p, 0, none⟩), .string st, .func (.func 108) #[] #[]] w fun e w' => e = .returned (.tuple #[.string (ofBytes (contP s.data.toList k (stopAt S s.data.toList k) true).1), .int .i64 (contP s.data.toList k (stopAt S s.data.toList k) true).2.2]) ∧ Cur w' p s (contP s.data.toList k (stopAt S s.data.toList k) true).2.1 ∧ Keep p w w' := by
  have hsl : s.data.toList.length = s.size := by simp
  have HSL := Lib.hid hsl
  obtain ⟨j, hj⟩ : ∃ j, stopAt S s.data.toList k = j := ⟨_, rfl⟩
  have hjl := stopAt_le S s.data.toList k (by omega)
  rw [hj] at hjl ⊢
  have HJ := Lib.hid hj
  have hfr := bld_fresh w
  have hpw := hC.lt
  have hS38 : S.contains 38 = false := by
    rw [Bool.eq_false_iff]
    intro hc
    rcases hS 38 (by simpa using hc) with h | h | h <;> exact absurd h (by decide)
  have HS38 := Lib.hid hS38
  have HS := Lib.hid hS
  have hD0 : DatR w (w.alloc (.cells #[.pointer none, .slice none 0 0] 77)) p s k [] := ⟨hC.keep ((Below.refl _ _).alloc (Nat.le_refl _) _), (Keep.refl _ _).alloc _, hfr⟩
  obtain ⟨CS, hCS⟩ : ∃ CS, CS = (⟨#[38]⟩ : ByteArray) ++ st := ⟨_, rfl⟩
  have hCl : CS.data.toList = 38 :: S := by rw [hCS, bapp, hst]; rfl
  have hCz : CS.size = st.size + 1 := by rw [hCS, ByteArray.size_append, show (⟨#[38]⟩ : ByteArray).size = 1 from rfl]; omega
  have hal : ∀ c ∈ CS.data.toList, c.toNat < 128 := by
    intro c hc
    rw [hCl] at hc
    rcases List.mem_cons.1 hc with rfl | hc
    · decide
    · rcases hS c hc with rfl | rfl | rfl <;> decide
  have HCS := Lib.hid hCS
  clear hsl hj hfr hC hS38 hS hCS hst
  go_enter Tryz.func29, Tryz.ntmps29
  go_wp2
  go_loopw [] (fun wr => ∃ (i f : Nat) (acc : List UInt8), k ≤ i ∧ i ≤ j ∧ (contP s.data.toList k j true = contF s.data.toList j true f i acc ∧ j - i < f) ∧ acc.length ≤ 4 * i ∧ DatR w wr p s i acc) (fun wr => s.size - (intOf ((wr.cell? ⟨p, 1, none⟩).getD (.bool false))).toNat)
  case atStart => exact ⟨k, j + 1, [], Nat.le_refl _, hjl.1, ⟨rfl, by omega⟩, by simp, hD0⟩
  case round =>
    obtain ⟨i, f, acc, hki, hij, ⟨hrel, hf⟩, hacc, hD⟩ := hrel
    clear hD0
    have M1 := Lib.hid (hD.1.c1)
    have hil : i ≤ s.data.toList.length := by omega
    have hmid : stopAt S s.data.toList i = j := (stopAt_mid S _ k i hki (by rw [HJ.out]; exact hij) (by omega)).trans HJ.out
    obtain ⟨hsp1, hsp2⟩ := stopAt_spec S s.data.toList _ i (Nat.le_refl _)
    rw [hmid] at hsp1 hsp2
    have cR : ∀ wx, Cur wx p s i → _ := fun wx h => cur_rest p s i wx h (by have := HSL.out; omega)
    have hRl : (ofBytes (s.data.toList.drop i)).data.toList = s.data.toList.drop i := ofBytes_list _
    have hRz : (ofBytes (s.data.toList.drop i)).size = s.size - i := by rw [ofBytes_size, List.length_drop, HSL.out]
    have cI : ∀ wx, _ := fun wx => idx_any (ofBytes (s.data.toList.drop i)) CS wx (by omega) (by omega) (by omega) hal
    rw [hRl, hCl] at cI
    have hi6 : (i : Int) ≤ 1000000 := by have := HSL.out; omega
    have hi0 : (0 : Int) ≤ (i : Int) := by omega
    have main : ∀ (n : Nat) (A : List UInt8), i + n ≤ s.data.toList.length → A = spMap true (linesP ((s.data.toList.drop i).take n)) → ((ofBytes A).size ≤ n ∧ A.length ≤ n ∧ A.length ≤ 1000000) := by
      intro n A hn hA
      have h1 := linesP_len ((s.data.toList.drop i).take n)
      have h2 : ((s.data.toList.drop i).take n).length ≤ n := List.length_take_le _ _
      have h3 := spMap_len true (linesP ((s.data.toList.drop i).take n))
      have h4 : A.length ≤ n := by rw [hA]; first | omega | (rw [h3]; omega)
      exact ⟨by rw [ofBytes_size]; exact h4, h4, by have := HSL.out; omega⟩
    rcases ia_cases (38 :: S) (s.data.toList.drop i) with ⟨h1, h2⟩ | ⟨n, h1, hn, h3, h4⟩
    · have hn0 : ((s.data.toList.drop i).take (s.data.toList.length - i)) = s.data.toList.drop i := List.take_of_length_le (by rw [List.length_drop]; omega)
      have hjj : j = s.data.toList.length := by
        rw [← hmid, stopAt_run S _ (s.data.toList.length - i) i (by omega) (fun x hx => by rw [hn0] at hx; have := h2 x hx; rw [List.contains_cons, Bool.or_eq_false_iff] at this; exact this.2), show i + (s.data.toList.length - i) = s.data.toList.length by omega, stopAt_end _ _ _ (Nat.le_refl _)]
      have hno38 : ∀ q, i ≤ q → q < j → ∀ h : q < s.data.toList.length, s.data.toList[q] ≠ 38 := by
        intro q hq1 hq2 hq3 he
        have hmem : s.data.toList[q] ∈ s.data.toList.drop i := List.mem_drop_iff_getElem.2 ⟨q - i, by omega, by simp [show i + (q - i) = q by omega]⟩
        have := h2 _ hmem
        rw [he] at this
        simp at this
      have HR := Lib.hid (hrel.trans (data_end s.data.toList true i j f acc hij (by omega) hf hno38))
      have hjn : j - i = s.size - i := by have := HSL.out; omega
      rw [hjn] at HR
      rw [h1] at cI
      have hb0 : hasP s.data.toList ((i + (s.size - i) : Nat) : Int) [38] = false := by
        rw [← pre_has, List.drop_eq_nil_of_le (by have := HSL.out; omega)]; rfl
      obtain ⟨n, hnd⟩ : ∃ n, s.size - i = n := ⟨_, rfl⟩
      have hRz2 : ((ofBytes (s.data.toList.drop i)).size : Int) = (n : Int) := by omega
      rw [hnd] at HR hb0
      have hin : i + n = s.size := by have := HSL.out; omega
      obtain ⟨m1, m2, m3⟩ := main n _ (by have := HSL.out; omega) rfl
      have hst : ∀ wx, _ := fun wx => slice_to (ofBytes (s.data.toList.drop i)) (n : Int) (by omega) (by omega) wx
      rw [Int.toNat_natCast, kext, hRl, List.drop_zero, Nat.sub_zero] at hst
      have cF : ∀ wx, TokT wx → _ := fun wx h => tok_spaces (ofBytes ((s.data.toList.drop i).take n)) wx (by rw [ofBytes_size]; have := List.length_take_le n (s.data.toList.drop i); have := HSL.out; omega) h
      rw [ofBytes_list] at cF
      obtain ⟨A, hA⟩ : ∃ A, A = spMap true (linesP ((s.data.toList.drop i).take n)) := ⟨_, rfl⟩
      rw [← hA] at cF m1 m2 m3
      first | rw [← hA] at HR | rw [← hA] at hg2
      have hBA : (acc ++ A).length ≤ 4 * i + n := by rw [List.length_append]; omega
      have cW : ∀ wx, Bld w.heap.size w.heap.size acc wx → w.heap.size ≤ wx.heap.size → _ := fun wx h1 h2 => bld_WriteString w.heap.size w.heap.size acc (ofBytes A) wx h1 (by have := HSL.out; omega) h2
      rw [ofBytes_list] at cW
      have cB : ∀ wx, Cur wx p s ((i : Int) + (n : Int)) → _ := fun wx h => cur_starts p s ⟨#[38]⟩ (i + n) _ wx (by rw [show ((i + n : Nat) : Int) = (i : Int) + (n : Int) by omega]; exact h) (by have := HSL.out; omega) hb0
      have cT : ∀ wx, Bld w.heap.size w.heap.size (acc ++ A) wx → w.heap.size ≤ wx.heap.size → _ := fun wx h1 h2 => bld_String w.heap.size w.heap.size (acc ++ A) wx h1 h2
      have hn6 : (n : Int) ≤ 1000000 := by have := HSL.out; omega
      generalize ofBytes A = AS at *
      generalize ofBytes ((s.data.toList.drop i).take n) = MS at *
      clear hA
      have hjs : (j : Int) = (i : Int) + (n : Int) := by have := HSL.out; omega
      rw [hjs] at HR
      clear hno38 hsp1 hsp2 h1 h2 hn0 hjj hmid hRl hjn hnd hRz main hrel hjs
      generalize ofBytes (s.data.toList.drop i) = R at *
      go_wp2_with fail
      refine (cR _ hD.1).mono ?_
      rintro e w1 ⟨rfl, b1⟩
      have D1 := Lib.hid (hD.more b1)
      go_wp2_with fail
      rw [← HCS.out]
      refine (cI _).mono ?_
      rintro e w2 ⟨rfl, b2⟩
      have D2 := Lib.hid (DatR.more D1.out b2)
      go_wp2_with fail
      refine (cR _ (DatR.cur D2.out)).mono ?_
      rintro e w3 ⟨rfl, b3⟩
      have D3 := Lib.hid (DatR.more D2.out b3)
      clear b1 b2 b3
      go_wp2_with fail
      refine (cR _ (DatR.cur D3.out)).mono ?_
      rintro e w4 ⟨rfl, b4⟩
      have D4 := Lib.hid (DatR.more D3.out b4)
      have t4 := (hT.keep (DatR.keep D4.out)).tabs
      go_wp2_with fail
      refine (cF _ t4).mono ?_
      rintro e w5 ⟨rfl, b5⟩
      have D5 := Lib.hid (DatR.more D4.out b5)
      have z5 := (DatR.keep D5.out).size
      go_wp2_with fail
      refine (cW _ (DatR.bld D5.out) z5).mono ?_
      rintro e w6 ⟨rfl, B6, b6⟩
      have D6 := Lib.hid (DatR.low D5.out b6 B6 hpw)
      have D7 := Lib.hid (DatR.set D6.out hpw ((i : Int) + (n : Int)))
      have q1 := Cur.c1 (DatR.cur D6.out)
      have f1 := Cur.f1 (DatR.cur D6.out)
      clear b4 t4 b5 z5 b6 B6
      go_wp2_with fail
      refine (cB _ (DatR.cur D7.out)).mono ?_
      rintro e w8 ⟨rfl, b8⟩
      have D8 := Lib.hid (DatR.more D7.out b8)
      have z8 := (DatR.keep D8.out).size
      clear b8 q1 f1
      go_wp2_with fail
      refine (cT _ (DatR.bld D8.out) z8).mono ?_
      rintro e w9 ⟨rfl, B9, b9⟩
      have D9 := Lib.hid (DatR.low D8.out b9 B9 hpw)
      clear b9 B9
      go_wp2
      exact bodyPost_ret (v := .tuple #[.string (ofBytes (acc ++ A)), .int .i64 0]) (by simp [results, Tryz.results29, go_sem]) rfl ⟨by rw [HR.out], by rw [HR.out]; exact D9.out.1, D9.out.2.1⟩
    · have hnl : i + n < s.data.toList.length := by rw [List.length_drop] at hn; omega
      have hg : (s.data.toList.drop i)[n]'hn = s.data.toList[i + n]'hnl := List.getElem_drop
      rw [hg] at h3
      have hgd : s.data.toList.getD (i + n) 0 = s.data.toList[i + n]'hnl := by rw [List.getD_eq_getElem?_getD, List.getElem?_eq_getElem hnl]; rfl
      have hbef : ∀ q, i ≤ q → q < i + n → ∀ h : q < s.data.toList.length, (38 :: S).contains s.data.toList[q] = false := by
        intro q hq1 hq2 hq3
        have hq4 : q - i < ((s.data.toList.drop i).take n).length := by rw [List.length_take, List.length_drop]; omega
        have hmem : s.data.toList[q] ∈ (s.data.toList.drop i).take n := List.mem_iff_getElem.2 ⟨q - i, hq4, by rw [List.getElem_take, List.getElem_drop]; simp [show i + (q - i) = q by omega]⟩
        exact h4 _ hmem
      have hno38 : ∀ q, i ≤ q → q < i + n → ∀ h : q < s.data.toList.length, s.data.toList[q] ≠ 38 := by
        intro q hq1 hq2 hq3 he
        have := hbef q hq1 hq2 hq3
        rw [he] at this
        simp at this
      have hrun : stopAt S s.data.toList i = stopAt S s.data.toList (i + n) := stopAt_run S _ n i (by omega) (fun x hx => by have := h4 x hx; rw [List.contains_cons, Bool.or_eq_false_iff] at this; exact this.2)
      rw [h1] at cI
      obtain ⟨m1, m2, m3⟩ := main n _ (by omega) rfl
      have hn0 : (0 : Int) ≤ (n : Int) := by omega
      have hn1 : ¬ (n : Int) < 0 := by omega
      have hnR : n ≤ (ofBytes (s.data.toList.drop i)).size := by rw [hRz]; have := HSL.out; omega
      by_cases h38 : s.data.toList[i + n]'hnl = 38
      · have hnj : i + n < j := by
          rcases Nat.lt_or_ge (i + n) j with h | h
          · exact h
          · exfalso
            have hle := stopAt_le S s.data.toList (i + n) (by omega)
            have he : j = i + n := by omega
            have := hsp2 (by omega)
            simp only [he] at this
            rw [h38, HS38.out] at this
            exact absurd this (by decide)
        obtain ⟨g, hg1, hg2⟩ := data_amp s.data.toList true i (i + n) j f acc (by omega) hnj (by omega) hf hno38 (by rw [hgd]; exact h38)
        obtain ⟨hrt1, hrt2⟩ := refAt_take S s.data.toList HS.out (i + n) j hnj (by omega) hsp2
        rw [hrt1, show i + n - i = n by omega] at hg2
        have hb0 : hasP s.data.toList ((i + n : Nat) : Int) [38] = true := hasP_yes1 (by rw [List.getElem?_eq_getElem hnl, h38])
        have cX : ∀ wx, EscT wx → _ := fun wx h => esc_Reference s ((i + n : Nat) : Int) wx (by omega) h
        rw [refP_at s.data.toList (i + n) hnl (by rw [hgd]; exact h38)] at cX
        have hst : ∀ wx, _ := fun wx => slice_to (ofBytes (s.data.toList.drop i)) (n : Int) (by omega) (by omega) wx
        rw [Int.toNat_natCast, kext, hRl, List.drop_zero, Nat.sub_zero] at hst
        have cF : ∀ wx, TokT wx → _ := fun wx h => tok_spaces (ofBytes ((s.data.toList.drop i).take n)) wx (by rw [ofBytes_size]; have := List.length_take_le n (s.data.toList.drop i); have := HSL.out; omega) h
        rw [ofBytes_list] at cF
        obtain ⟨A, hA⟩ : ∃ A, A = spMap true (linesP ((s.data.toList.drop i).take n)) := ⟨_, rfl⟩
        rw [← hA] at cF m1 m2 m3
        first | rw [← hA] at HR | rw [← hA] at hg2
        have hBA : (acc ++ A).length ≤ 4 * i + n := by rw [List.length_append]; omega
        have cW : ∀ wx, Bld w.heap.size w.heap.size acc wx → w.heap.size ≤ wx.heap.size → _ := fun wx h1 h2 => bld_WriteString w.heap.size w.heap.size acc (ofBytes A) wx h1 (by have := HSL.out; omega) h2
        rw [ofBytes_list] at cW
        have cB : ∀ wx, Cur wx p s ((i : Int) + (n : Int)) → _ := fun wx h => cur_starts p s ⟨#[38]⟩ (i + n) _ wx (by rw [show ((i + n : Nat) : Int) = (i : Int) + (n : Int) by omega]; exact h) (by have := HSL.out; omega) hb0
        have cT : ∀ wx, Bld w.heap.size w.heap.size (acc ++ A) wx → w.heap.size ≤ wx.heap.size → _ := fun wx h1 h2 => bld_String w.heap.size w.heap.size (acc ++ A) wx h1 h2
        have hn6 : (n : Int) ≤ 1000000 := by have := HSL.out; omega
        generalize ofBytes A = AS at *
        generalize ofBytes ((s.data.toList.drop i).take n) = MS at *
        clear hA
        rcases refAt_cases s.data.toList (i + n) with hr | ⟨r, jj, hr, g1, g2, g3, g4, g5⟩
        · rw [hr] at cX hg2
          rw [if_neg (by decide)] at hg2
          have HR := Lib.hid (hrel.trans hg2)
          simp only at cX
          rw [show ((i + n : Nat) : Int) = (i : Int) + (n : Int) by omega] at cX HR
          clear hno38 hsp1 hsp2 h1 h3 h4 hmid hRl hRz main hrel hg hg1 hg2 hgd hbef hrun hrt1 hrt2 h38 hr hn
          generalize ofBytes (s.data.toList.drop i) = R at *
          go_wp2_with fail
          refine (cR _ hD.1).mono ?_
          rintro e w1 ⟨rfl, b1⟩
          have D1 := Lib.hid (hD.more b1)
          go_wp2_with fail
          rw [← HCS.out]
          refine (cI _).mono ?_
          rintro e w2 ⟨rfl, b2⟩
          have D3 := Lib.hid (DatR.more D1.out b2)
          obtain ⟨w3, rfl⟩ : ∃ w3, w3 = w2 := ⟨_, rfl⟩
          clear b1 b2
          go_wp2_with fail
          refine (cR _ (DatR.cur D3.out)).mono ?_
          rintro e w4 ⟨rfl, b4⟩
          have D4 := Lib.hid (DatR.more D3.out b4)
          have t4 := (hT.keep (DatR.keep D4.out)).tabs
          go_wp2_with fail
          refine (cF _ t4).mono ?_
          rintro e w5 ⟨rfl, b5⟩
          have D5 := Lib.hid (DatR.more D4.out b5)
          have z5 := (DatR.keep D5.out).size
          go_wp2_with fail
          refine (cW _ (DatR.bld D5.out) z5).mono ?_
          rintro e w6 ⟨rfl, B6, b6⟩
          have D6 := Lib.hid (DatR.low D5.out b6 B6 hpw)
          have D7 := Lib.hid (DatR.set D6.out hpw ((i : Int) + (n : Int)))
          have q1 := Cur.c1 (DatR.cur D6.out)
          have f1 := Cur.f1 (DatR.cur D6.out)
          clear b4 t4 b5 z5 b6 B6
          go_wp2_with fail
          refine (cB _ (DatR.cur D7.out)).mono ?_
          rintro e w8 ⟨rfl, b8⟩
          have D8 := Lib.hid (DatR.more D7.out b8)
          have c0 := Cur.c0 (DatR.cur D8.out)
          have c1 := Cur.c1 (DatR.cur D8.out)
          have hp8 := Cur.lt (DatR.cur D8.out)
          have t8 : EscT w8.drew := EscT_below (hT.keep (DatR.keep D8.out)).tabs.2.1 (Below.refl _ _).drew
          clear b8 q1 f1
          go_wp2
          go_region_held3 (fun w' => w'.cell? ⟨p, 0, none⟩ = some (.string s) ∧ w'.cell? ⟨p, 1, none⟩ = some (.int .i64 ((i : Int) + (n : Int)))) (first | exact ⟨c0, c1⟩ | exact hS9) (first | (go_at_call 48; refine (cX w8.drew t8).mono ?_; rintro e w9 ⟨rfl, b9⟩; have hS9 : w9.cell? ⟨p, 0, none⟩ = some (.string s) ∧ w9.cell? ⟨p, 1, none⟩ = some (.int .i64 ((i : Int) + (n : Int))) := ⟨(b9.cell (p := ⟨p, 0, none⟩) hp8).trans c0, (b9.cell (p := ⟨p, 1, none⟩) hp8).trans c1⟩))
          have D9 := Lib.hid (DatR.more (DatR.drew D8.out) b9)
          clear hS9 b9 t8 c0 c1 cX
          go_wp2
          exact bodyPost_ret (v := .tuple #[.string ⟨#[]⟩, .int .i64 12]) (by simp [results, Tryz.results29, go_sem]) rfl ⟨by rw [HR.out]; rfl, by rw [HR.out]; exact D9.out.1, D9.out.2.1⟩
        · rw [hr] at cX hg2 hrt2
          rw [if_pos rfl] at hg2
          have hjj := hrt2 rfl
          rw [Int.toNat_natCast] at hg2
          have HR := Lib.hid (hrel.trans hg2)
          simp only at cX hjj
          have hebl := eb_len r
          have W2 : ∀ wx, Bld w.heap.size w.heap.size (acc ++ A) wx → w.heap.size ≤ wx.heap.size → _ := fun wx h1 h2 => bld_WriteRune w.heap.size w.heap.size (acc ++ A) r (by omega) (by omega) wx h1 (by rw [List.length_append]; omega) h2
          rw [enc_eb r g3] at W2
          have hal3 : (acc ++ A ++ eb r).length ≤ 4 * jj := by rw [List.length_append, List.length_append]; omega
          have hjjl : jj ≤ j := by omega
          have hfg : j - jj < g := by omega
          have hjk : k ≤ jj := by omega
          have hm9 : i < jj ∧ jj ≤ s.size := by have := HSL.out; omega
          rw [show ((i + n : Nat) : Int) = (i : Int) + (n : Int) by omega] at cX
          clear hno38 hsp1 hsp2 h1 h3 h4 hmid hRl hRz main hrel hg hg1 hg2 hgd hbef hrun hrt1 hrt2 h38 hr hn g3 hebl
          generalize ofBytes (s.data.toList.drop i) = R at *
          go_wp2_with fail
          refine (cR _ hD.1).mono ?_
          rintro e w1 ⟨rfl, b1⟩
          have D1 := Lib.hid (hD.more b1)
          go_wp2_with fail
          rw [← HCS.out]
          refine (cI _).mono ?_
          rintro e w2 ⟨rfl, b2⟩
          have D3 := Lib.hid (DatR.more D1.out b2)
          obtain ⟨w3, rfl⟩ : ∃ w3, w3 = w2 := ⟨_, rfl⟩
          clear b1 b2
          go_wp2_with fail
          refine (cR _ (DatR.cur D3.out)).mono ?_
          rintro e w4 ⟨rfl, b4⟩
          have D4 := Lib.hid (DatR.more D3.out b4)
          have t4 := (hT.keep (DatR.keep D4.out)).tabs
          go_wp2_with fail
          refine (cF _ t4).mono ?_
          rintro e w5 ⟨rfl, b5⟩
          have D5 := Lib.hid (DatR.more D4.out b5)
          have z5 := (DatR.keep D5.out).size
          go_wp2_with fail
          refine (cW _ (DatR.bld D5.out) z5).mono ?_
          rintro e w6 ⟨rfl, B6, b6⟩
          have D6 := Lib.hid (DatR.low D5.out b6 B6 hpw)
          have D7 := Lib.hid (DatR.set D6.out hpw ((i : Int) + (n : Int)))
          have q1 := Cur.c1 (DatR.cur D6.out)
          have f1 := Cur.f1 (DatR.cur D6.out)
          clear b4 t4 b5 z5 b6 B6
          go_wp2_with fail
          refine (cB _ (DatR.cur D7.out)).mono ?_
          rintro e w8 ⟨rfl, b8⟩
          have D8 := Lib.hid (DatR.more D7.out b8)
          generalize acc ++ A ++ eb r = E3 at *
          generalize (Lib.runeCells r).length = RL at *
          have c0 := Cur.c0 (DatR.cur D8.out)
          have c1 := Cur.c1 (DatR.cur D8.out)
          have hp8 := Cur.lt (DatR.cur D8.out)
          have t8 : EscT w8.drew := EscT_below (hT.keep (DatR.keep D8.out)).tabs.2.1 (Below.refl _ _).drew
          clear b8 q1 f1
          go_wp2
          go_region_held3 (fun w' => w'.cell? ⟨p, 0, none⟩ = some (.string s) ∧ w'.cell? ⟨p, 1, none⟩ = some (.int .i64 ((i : Int) + (n : Int)))) (first | exact ⟨c0, c1⟩ | exact hS9) (first | (go_at_call 48; refine (cX w8.drew t8).mono ?_; rintro e w9 ⟨rfl, b9⟩; have hS9 : w9.cell? ⟨p, 0, none⟩ = some (.string s) ∧ w9.cell? ⟨p, 1, none⟩ = some (.int .i64 ((i : Int) + (n : Int))) := ⟨(b9.cell (p := ⟨p, 0, none⟩) hp8).trans c0, (b9.cell (p := ⟨p, 1, none⟩) hp8).trans c1⟩))
          have D9 := Lib.hid (DatR.more (DatR.drew D8.out) b9)
          clear hS9 b9 t8 c0 c1 cX
          have hz9 : w.heap.size ≤ w9.heap.size := (DatR.keep D9.out).size
          go_wp2_with fail
          refine (W2 _ (DatR.bld D9.out) hz9).mono ?_
          rintro e w10 ⟨rfl, B10, b10⟩
          have D10 := Lib.hid (DatR.low D9.out b10 B10 hpw)
          have D11 := Lib.hid (DatR.set D10.out hpw (jj : Int))
          have q1 := Cur.c1 (DatR.cur D10.out)
          have f1 := Cur.f1 (DatR.cur D10.out)
          clear b10 B10 W2
          go_wp2
          go_roundw
          case rel => exact ⟨jj, g, E3, hjk, hjjl, ⟨HR.out, hfg⟩, hal3, D11.out⟩
          case measure => rw [(DatR.cur D11.out).c1, M1.out]; simp [intOf]; omega
      · have hinS : S.contains (s.data.toList[i + n]'hnl) = true := by
          rw [List.contains_cons, Bool.or_eq_true] at h3
          rcases h3 with h | h
          · exact absurd (by simpa using h) h38
          · exact h
        have hjj : j = i + n := by rw [← hmid, hrun, stopAt_hit S _ _ hnl hinS]
        have hb0 : hasP s.data.toList ((i + n : Nat) : Int) [38] = false := hasP_no [] (c := s.data.toList[i + n]'hnl) (by rw [List.getElem?_eq_getElem hnl]) h38
        have HR := Lib.hid (hrel.trans (data_end s.data.toList true i j f acc hij (by omega) hf (fun q a b => hno38 q a (by omega))))
        have hjn : j - i = n := by omega
        have hjs : (j : Int) = (i : Int) + (n : Int) := by omega
        rw [hjn, hjs] at HR
        have hst : ∀ wx, _ := fun wx => slice_to (ofBytes (s.data.toList.drop i)) (n : Int) (by omega) (by omega) wx
        rw [Int.toNat_natCast, kext, hRl, List.drop_zero, Nat.sub_zero] at hst
        have cF : ∀ wx, TokT wx → _ := fun wx h => tok_spaces (ofBytes ((s.data.toList.drop i).take n)) wx (by rw [ofBytes_size]; have := List.length_take_le n (s.data.toList.drop i); have := HSL.out; omega) h
        rw [ofBytes_list] at cF
        obtain ⟨A, hA⟩ : ∃ A, A = spMap true (linesP ((s.data.toList.drop i).take n)) := ⟨_, rfl⟩
        rw [← hA] at cF m1 m2 m3
        first | rw [← hA] at HR | rw [← hA] at hg2
        have hBA : (acc ++ A).length ≤ 4 * i + n := by rw [List.length_append]; omega
        have cW : ∀ wx, Bld w.heap.size w.heap.size acc wx → w.heap.size ≤ wx.heap.size → _ := fun wx h1 h2 => bld_WriteString w.heap.size w.heap.size acc (ofBytes A) wx h1 (by have := HSL.out; omega) h2
        rw [ofBytes_list] at cW
        have cB : ∀ wx, Cur wx p s ((i : Int) + (n : Int)) → _ := fun wx h => cur_starts p s ⟨#[38]⟩ (i + n) _ wx (by rw [show ((i + n : Nat) : Int) = (i : Int) + (n : Int) by omega]; exact h) (by have := HSL.out; omega) hb0
        have cT : ∀ wx, Bld w.heap.size w.heap.size (acc ++ A) wx → w.heap.size ≤ wx.heap.size → _ := fun wx h1 h2 => bld_String w.heap.size w.heap.size (acc ++ A) wx h1 h2
        have hn6 : (n : Int) ≤ 1000000 := by have := HSL.out; omega
        generalize ofBytes A = AS at *
        generalize ofBytes ((s.data.toList.drop i).take n) = MS at *
        clear hA
        clear hno38 hsp1 hsp2 h1 h3 h4 hmid hRl hjn hRz main hrel hg hgd hbef hrun h38 hinS hn hjs
        generalize ofBytes (s.data.toList.drop i) = R at *
        go_wp2_with fail
        refine (cR _ hD.1).mono ?_
        rintro e w1 ⟨rfl, b1⟩
        have D1 := Lib.hid (hD.more b1)
        go_wp2_with fail
        rw [← HCS.out]
        refine (cI _).mono ?_
        rintro e w2 ⟨rfl, b2⟩
        have D3 := Lib.hid (DatR.more D1.out b2)
        obtain ⟨w3, rfl⟩ : ∃ w3, w3 = w2 := ⟨_, rfl⟩
        clear b1 b2
        go_wp2_with fail
        refine (cR _ (DatR.cur D3.out)).mono ?_
        rintro e w4 ⟨rfl, b4⟩
        have D4 := Lib.hid (DatR.more D3.out b4)
        have t4 := (hT.keep (DatR.keep D4.out)).tabs
        go_wp2_with fail
        refine (cF _ t4).mono ?_
        rintro e w5 ⟨rfl, b5⟩
        have D5 := Lib.hid (DatR.more D4.out b5)
        have z5 := (DatR.keep D5.out).size
        go_wp2_with fail
        refine (cW _ (DatR.bld D5.out) z5).mono ?_
        rintro e w6 ⟨rfl, B6, b6⟩
        have D6 := Lib.hid (DatR.low D5.out b6 B6 hpw)
        have D7 := Lib.hid (DatR.set D6.out hpw ((i : Int) + (n : Int)))
        have q1 := Cur.c1 (DatR.cur D6.out)
        have f1 := Cur.f1 (DatR.cur D6.out)
        clear b4 t4 b5 z5 b6 B6
        go_wp2_with fail
        refine (cB _ (DatR.cur D7.out)).mono ?_
        rintro e w8 ⟨rfl, b8⟩
        have D8 := Lib.hid (DatR.more D7.out b8)
        have z8 := (DatR.keep D8.out).size
        clear b8 q1 f1
        go_wp2_with fail
        refine (cT _ (DatR.bld D8.out) z8).mono ?_
        rintro e w9 ⟨rfl, B9, b9⟩
        have D9 := Lib.hid (DatR.low D8.out b9 B9 hpw)
        clear b9 B9
        go_wp2
        exact bodyPost_ret (v := .tuple #[.string (ofBytes (acc ++ A)), .int .i64 0]) (by simp [results, Tryz.results29, go_sem]) rfl ⟨by rw [HR.out], by rw [HR.out]; exact D9.out.1, D9.out.2.1⟩
end Go.Proofs.YtpphpnkijokffaaGreatDoor
