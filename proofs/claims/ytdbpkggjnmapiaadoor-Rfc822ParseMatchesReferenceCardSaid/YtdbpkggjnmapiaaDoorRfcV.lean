/- Package rfc822: the tables that it reads; Format; the words; Parse: what each returns. -/
import Derived.Test.YtdbpkggjnmapiaaDoorRfdD
import Derived.Test.YtdbpkggjnmapiaaDoorDatE
import Derived.Test.YtdbpkggjnmapiaaDoorCivE
import Derived.Test.YtdbpkggjnmapiaaDoorRfcH
import Derived.Shelf.Strings.Split
import Derived.Test.YtdbpkggjnmapiaaDoorDatD
import Derived.Test.YtdbpkggjnmapiaaDoorRfcK
import Derived.Deep.RegionHeld3
namespace Go.Proofs.YtdbpkggjnmapiaaDoor
open Go.RowKit

/-- What the package's tables hold: those of rfc3339 and civil, the names, and some number in a variable of the library's. -/
def RfcT (w : World) : Prop := (DatT w ∧ NamT w) ∧ ∃ m : Int, w.cell? ⟨5, 0, none⟩ = some (.int .i64 m)
theorem RfcT_below {w w' : World} (h : RfcT w) (hb : Below w.heap.size w w') : RfcT w' :=
  ⟨⟨DatT_below h.1.1 hb, NamT_below h.1.2 hb⟩, h.2.imp fun _ hm => (hb.cell (civ_block_lt hm)).trans hm⟩
theorem rfc_Format_no (t : Int) (w : World) (h : inTime t = false) (hT : RfcT w) : Calls Tryd.prog 9 #[.int .i64 t] w fun e w' => e = .returned (.tuple #[.string ⟨#[]⟩, .int .i64 3]) ∧ Below w.heap.size w w' := by
  have c1 : ∀ wx, DatT wx → _ := fun wx => dat_Format_no t wx h
  have hD := hT.1.1
  clear hT
  go_enter Tryd.func9, Tryd.ntmps9
  go_wp2_with fail
  refine (c1 _ hD).mono ?_
  rintro e w1 ⟨rfl, b1⟩
  go_wp2
  go_ret2
  exact ⟨rfl, b1⟩
theorem three_day (k : Nat) : strOfNums (three daysS (k : Int)) = ofBytes (dnm k) := by
  rw [← three_ext]
  apply str_ext
  rw [ofBytes_list, show (3 * (k : Int)).toNat = k * 3 by omega, show (3 * (k : Int) + 3).toNat = k * 3 + 3 by omega, Lib.extract_data]
  unfold dnm
  rw [show k * 3 + 3 - k * 3 = 3 by omega]; rfl
theorem three_month (k : Nat) : strOfNums (three monthsS (k : Int)) = ofBytes (mnm k) := by
  rw [← three_ext]
  apply str_ext
  rw [ofBytes_list, show (3 * (k : Int)).toNat = k * 3 by omega, show (3 * (k : Int) + 3).toNat = k * 3 + 3 by omega, Lib.extract_data]
  unfold mnm
  rw [show k * 3 + 3 - k * 3 = 3 by omega]; rfl

set_option maxRecDepth 100000 in
set_option maxHeartbeats 8000000 in
theorem rfc_Format_yes (y m d h mi s : Int) (w : World) (hv : okDate y m d) (hc : okClock h mi s) (hT : RfcT w) : Calls Tryd.prog 9 #[.int .i64 (timeI y m d h mi s)] w fun e w' => e = .returned (.tuple #[.string (strOfNums (fmt822 y m d h mi s)), .int .i64 0]) ∧ Below w.heap.size w w' := by
  have hb := of_decide_eq_true (time_bd hv hc)
  have hn := num_bd y m d hv
  have c1 : ∀ wx, DatT wx → _ := fun wx => dat_Format_yes y m d h mi s wx hv hc
  have c2 : ∀ wx, CivT wx → _ := fun wx => civ_Weekday (numI y m d) wx
  have c3 : ∀ wx, CivT wx → _ := fun wx => civ_Date_yes y m d wx hv
  rw [show inDays (numI y m d) = true from decide_eq_true ⟨hn.2.2.1, hn.2.2.2⟩] at c2
  simp only [if_true] at c2
  have hm := hv.2.2
  obtain ⟨t1, t2, t3, t4, t5, t6⟩ := hc
  obtain ⟨wd, hwd⟩ : ∃ wd : Nat, (wd : Int) = (numI y m d + 719163) % 7 := ⟨((numI y m d + 719163) % 7).toNat, by omega⟩
  have hw7 : wd < 7 := by omega
  obtain ⟨mm, hmm⟩ : ∃ mm : Nat, (mm : Int) = m - 1 := ⟨(m - 1).toNat, by omega⟩
  have hm12 : mm < 12 := by omega
  rw [← hwd] at c2
  have hTm : timeI y m d h mi s = numI y m d * 86400 + (h * 3600 + mi * 60 + s) := rfl
  have q1 : (timeI y m d h mi s + 62135596800) / 86400 = numI y m d + 719162 := by omega
  have hfsz : (strOfNums (fmtL y m d h mi s)).size = 20 := by rw [str_size, fmtL_length]
  have x1 := str_extract (fmtL y m d h mi s) 8 10
  have x2 := str_extract (fmtL y m d h mi s) 0 4
  have x3 := str_extract (fmtL y m d h mi s) 11 19
  have hall : strOfNums (three daysS (wd : Int)) ++ ⟨#[44, 32]⟩ ++ (strOfNums (((fmtL y m d h mi s).take 10).drop 8) ++ ⟨#[32]⟩ ++ strOfNums (three monthsS (mm : Int)) ++ ⟨#[32]⟩ ++ strOfNums (((fmtL y m d h mi s).take 4).drop 0)) ++ ⟨#[32]⟩ ++ strOfNums (((fmtL y m d h mi s).take 19).drop 11) ++ ⟨#[32, 71, 77, 84]⟩ = strOfNums (fmt822 y m d h mi s) := by
    rw [show (⟨#[44, 32]⟩ : ByteArray) = strOfNums [44, 32] from rfl, show (⟨#[32]⟩ : ByteArray) = strOfNums [32] from rfl, show (⟨#[32, 71, 77, 84]⟩ : ByteArray) = strOfNums [32, 71, 77, 84] from rfl]
    simp only [str_app]
    rw [hwd, hmm]
    unfold fmt822
    congr 1
    simp [fmtL, d2, d4]
  rw [three_day, three_month] at hall
  have HA := Lib.hid hall
  have y1 : (strOfNums (((fmtL y m d h mi s).take 10).drop 8)).size = 2 := by rw [str_size]; rfl
  have y2 : (strOfNums (((fmtL y m d h mi s).take 4).drop 0)).size = 4 := by rw [str_size]; rfl
  have y3 : (strOfNums (((fmtL y m d h mi s).take 19).drop 11)).size = 8 := by rw [str_size]; rfl
  have y4 : (ofBytes (dnm wd)).size = 3 := by rw [ofBytes_size]; unfold dnm; rw [List.length_take, List.length_drop, show dayNames.length = 21 from rfl]; omega
  have y5 : (ofBytes (mnm mm)).size = 3 := by rw [ofBytes_size]; unfold mnm; rw [List.length_take, List.length_drop, show monthNames.length = 36 from rfl]; omega
  have i1 : ∀ wx, _ := fun wx => slice_mid (strOfNums (fmtL y m d h mi s)) 8 10 (by omega) (by omega) (by omega) wx
  have i2 : ∀ wx, _ := fun wx => slice_to (strOfNums (fmtL y m d h mi s)) 4 (by omega) (by omega) wx
  have i3 : ∀ wx, _ := fun wx => slice_mid (strOfNums (fmtL y m d h mi s)) 11 19 (by omega) (by omega) (by omega) wx
  rw [show (8 : Int).toNat = 8 from rfl, show (10 : Int).toNat = 10 from rfl, x1] at i1
  rw [show (4 : Int).toNat = 4 from rfl, x2] at i2
  rw [show (11 : Int).toNat = 11 from rfl, show (19 : Int).toNat = 19 from rfl, x3] at i3
  have hmm' : m - 1 = (mm : Int) := hmm.symm
  have kd := fun {wx} (hx : NamT wx) => hx.1 wd hw7
  have km := fun {wx} (hx : NamT wx) => hx.2 mm hm12
  obtain ⟨N, hN⟩ : ∃ N, N = numI y m d + 719162 := ⟨_, rfl⟩
  have hnN : numI y m d = -719162 + N := by omega
  have hNb : 0 ≤ N ∧ N ≤ 3652058 := by omega
  rw [← hN] at q1
  rw [hnN] at c2 c3
  clear hTm hall hwd hmm hv hnN hN hn
  generalize timeI y m d h mi s = t at *
  generalize strOfNums (((fmtL y m d h mi s).take 10).drop 8) = z1 at *
  generalize strOfNums (((fmtL y m d h mi s).take 4).drop 0) = z2 at *
  generalize strOfNums (((fmtL y m d h mi s).take 19).drop 11) = z3 at *
  generalize strOfNums (fmtL y m d h mi s) = f at *
  generalize ofBytes (dnm wd) = z4 at *
  generalize ofBytes (mnm mm) = z5 at *
  have e1 : (z1 ++ ⟨#[32]⟩).size = 3 := by rw [ByteArray.size_append, y1]; rfl
  have e2 : (z1 ++ ⟨#[32]⟩ ++ z5).size = 6 := by rw [ByteArray.size_append, e1, y5]
  have e3 : (z1 ++ ⟨#[32]⟩ ++ z5 ++ ⟨#[32]⟩).size = 7 := by rw [ByteArray.size_append, e2]; rfl
  have e4 : (z1 ++ ⟨#[32]⟩ ++ z5 ++ ⟨#[32]⟩ ++ z2).size = 11 := by rw [ByteArray.size_append, e3, y2]
  have hD := hT.1.1
  have hN := hT.1.2
  have hC := hD.1
  clear hT x1 x2 x3
  go_enter Tryd.func9, Tryd.ntmps9
  go_wp2_with fail
  refine (c1 _ hD).mono ?_
  rintro e w1 ⟨rfl, b1⟩
  have hC1 := CivT_below hC b1
  have hN1 := NamT_below hN b1
  clear hN hC hD
  go_wp2_with fail
  refine (c2 _ hC1).mono ?_
  rintro e w2 ⟨rfl, b2⟩
  have hC2 := CivT_below hC1 b2
  have hN2 := NamT_below hN1 b2
  clear hC1 hN1 q1 c1 c2
  go_wp2_with fail
  refine (c3 _ hC2).mono ?_
  rintro e w3 ⟨rfl, b3⟩
  have hN3 := NamT_below hN2 b3
  clear hC2 hN2 c3
  have kd1 := kd hN3
  have km1 := km hN3
  have kd2 : w3.drew.cell? ⟨1, wd, none⟩ = some (.string z4) := kd1
  clear kd km hN3
  have a1 : IntKind.i64.wrap (m - 1) = (mm : Int) := by rw [hmm']; exact IntWalk.i64_in _ (by omega)
  have a2 : (0 : Int) ≤ (mm : Int) := by omega
  have a3 : (mm : Int) < 12 := by omega
  have a4 : (wd : Int) < 7 := by omega
  go_wp2
  go_quiet (fail)
  go_wp2
  go_quiet (fail)
  go_wp2
  go_ret2
  have s1 := b1.size
  have s2 := b2.size
  exact ⟨retS HA.out, below_drewN (below_drewN ((b1.trans (b2.mono s1)).trans (b3.mono (by omega))) _) _⟩
end Go.Proofs.YtdbpkggjnmapiaaDoor

namespace Go.Proofs.YtdbpkggjnmapiaaDoor
open Go.RowKit

theorem wordsGo_len : ∀ (l cur : List UInt8), (wordsGo cur l).length ≤ l.length + 1
  | [], cur => by rw [wordsGo]; simp
  | c :: r, cur => by
    rw [wordsGo]
    split
    · have := wordsGo_len r []
      rw [List.length_cons, List.length_cons]; omega
    · have := wordsGo_len r (cur ++ [c])
      rw [List.length_cons]; omega
theorem wordsN_min (l : List UInt8) : wordsN (min 7 (l.length + 1) - 1) [] l = wordsN 6 [] l := by
  rcases Nat.lt_or_ge l.length 6 with h | h
  · have := wordsGo_len l []
    rw [wordsN_few l [] _ (by omega), wordsN_few l [] 6 (by omega)]
  · rw [show min 7 (l.length + 1) - 1 = 6 by omega]
theorem wordsN_le (l : List UInt8) : 1 ≤ (wordsN 6 [] l).length ∧ (wordsN 6 [] l).length ≤ min 7 (l.length + 1) := by
  have h1 := wordsGo_len l []
  have h2 := wordsGo_pos [] l
  rcases Nat.lt_or_ge (wordsGo [] l).length 8 with h | h
  · rw [wordsN_few l [] 6 (by omega)]; omega
  · rw [(wordsN_many l [] 6 (by omega)).1]; omega
theorem wordsN_in (p : UInt8 → Prop) : ∀ (l cur : List UInt8) (k : Nat), (∀ c ∈ cur, p c) → (∀ c ∈ l, p c) → ∀ w ∈ wordsN k cur l, ∀ c ∈ w, p c
  | l, cur, 0, h1, h2, w, hw => by
    have : w = cur ++ l := by cases l <;> exact List.mem_singleton.1 hw
    rw [this]
    intro c hc
    rcases List.mem_append.1 hc with h | h
    · exact h1 c h
    · exact h2 c h
  | [], cur, k + 1, h1, _, w, hw => by
    rw [wordsN] at hw
    rw [List.mem_singleton.1 hw]; exact h1
  | c :: r, cur, k + 1, h1, h2, w, hw => by
    rw [wordsN] at hw
    split at hw
    · rcases List.mem_cons.1 hw with rfl | hw
      · exact h1
      · exact wordsN_in p r [] k (by simp) (fun x hx => h2 x (List.mem_cons_of_mem _ hx)) w hw
    · refine wordsN_in p r (cur ++ [c]) (k + 1) (fun x hx => ?_) (fun x hx => h2 x (List.mem_cons_of_mem _ hx)) w hw
      rcases List.mem_append.1 hx with h | h
      · exact h1 x h
      · rw [List.mem_singleton.1 h]; exact h2 c List.mem_cons_self
/-- What Split returns, word for word. -/
def wordsS (s : ByteArray) : List (List UInt8) := wordsN 6 [] (lowL s)
theorem wordsS_low (s : ByteArray) : ∀ w ∈ wordsS s, isLow w := by
  intro w hw
  refine isLow_all (wordsN_in (fun c => low8 c = c) (lowL s) [] 6 (by simp) (fun c hc => ?_) w hw)
  unfold lowL at hc
  obtain ⟨d, _, rfl⟩ := List.mem_map.1 hc
  exact low_low d
theorem lowL_len (s : ByteArray) : (lowL s).length ≤ s.size := by
  unfold lowL
  rw [List.length_map, ← str_len s]
  exact rcol_length _
theorem wordsS_size (s : ByteArray) : ∀ w ∈ wordsS s, w.length ≤ s.size := by
  intro w hw
  have := lowL_len s
  exact wordsN_size s.size (lowL s) [] 6 (by simp; omega) w hw
theorem dropDay_len (ws : List (List UInt8)) : ws.length ≤ (dropDay ws).length + 1 := by
  cases ws with
  | nil => simp
  | cons w r =>
    rw [dropDay]
    split <;> simp
theorem wordsV_not : ∀ ws : List (List UInt8), ws.length ≠ 5 → wordsV ws = (0, 20)
  | [], _ => rfl
  | [_], _ => rfl
  | [_, _], _ => rfl
  | [_, _, _], _ => rfl
  | [_, _, _, _], _ => rfl
  | [_, _, _, _, _], h => absurd rfl h
  | _ :: _ :: _ :: _ :: _ :: _ :: _, _ => rfl
/-- Parse reads the words that Split gives. -/
theorem parse_words (s : ByteArray) : parse822 s = wordsV (dropDay (wordsS s)) := by
  rw [parse_low]
  unfold wordsS words
  rcases Nat.lt_or_ge (wordsGo [] (lowL s)).length 8 with h | h
  · rw [wordsN_few (lowL s) [] 6 (by omega)]
  · have h1 := (wordsN_many (lowL s) [] 6 (by omega)).1
    have h2 := dropDay_len (wordsGo [] (lowL s))
    have h3 := dropDay_len (wordsN 6 [] (lowL s))
    rw [wordsV_not _ (by omega), wordsV_not _ (by omega)]
theorem rfd_Split (l : List UInt8) (m : Int) (w : World) (hl : l.length ≤ 1000000) (hm : w.cell? ⟨5, 0, none⟩ = some (.int .i64 m)) :
    Calls Tryd.prog 24 #[.string (ofBytes l), .string ⟨#[32]⟩, .int .i64 7] w fun e w' =>
      e = .returned (.slice (some ⟨w.heap.size, 0, none⟩) (wordsN 6 [] l).length (min 7 (l.length + 1))) ∧ (∀ j x, (wordsN 6 [] l)[j]? = some x → w'.cell? ⟨w.heap.size, j, none⟩ = some (.string (ofBytes x))) ∧ Below w.heap.size w w' := by
  have c := Tryd.strings_SplitN (ofBytes l) ⟨#[32]⟩ 7 m w (by rw [ofBytes_size]; omega) hm (by decide) (by decide) (by decide)
  rw [ofBytes_size] at c
  have hd := Lib.splitB_data ⟨#[32]⟩ 0 (min 7 (l.length + 1) - 1) (ofBytes l)
  rw [ofBytes_list, show (⟨#[32]⟩ : ByteArray).data.toList = [32] from rfl, show Lib.splitK [32] 0 (min 7 (l.length + 1) - 1) l = wordsN (min 7 (l.length + 1) - 1) [] l from splitK_words l [] _ (by simp), wordsN_min] at hd
  have hlen := congrArg List.length hd
  rw [List.length_map] at hlen
  generalize Lib.splitB ⟨#[32]⟩ 0 (min 7 (l.length + 1) - 1) (ofBytes l) = B at *
  refine c.mono ?_
  rintro e w' ⟨rfl, rfl⟩
  refine ⟨by rw [hlen], fun j x hx => ?_, (Below.refl _ _).alloc (Nat.le_refl _) _⟩
  have hj : j < B.length := by
    rw [hlen]
    exact (List.getElem?_eq_some_iff.1 hx).1
  rw [World.cell?_alloc_at _ _ _ _ rfl]
  have hB : B[j]? = some (ofBytes x) := by
    rw [← hd, List.getElem?_map] at hx
    obtain ⟨b, hb⟩ : ∃ b, B[j]? = some b := ⟨B[j], List.getElem?_eq_getElem hj⟩
    rw [hb] at hx
    simp only [Option.map_some, Option.some.injEq] at hx
    rw [hb, ← hx, ofBytes_data]
  show (Lib.cellsOf B (min 7 (l.length + 1)))[j]? = _
  unfold Lib.cellsOf
  rw [List.getElem?_toArray, List.getElem?_append_left (by rw [List.length_map]; exact hj), List.getElem?_map, hB]
  rfl
end Go.Proofs.YtdbpkggjnmapiaaDoor

namespace Go.Proofs.YtdbpkggjnmapiaaDoor
open Go.RowKit

theorem parse_at (D1 K Z : ByteArray) (h1 : D1.size ≤ 10) (h2 : K.size ≤ 8) (h3 : Z.size ≤ 6) : ∀ wx, DatT wx → Calls Tryd.prog 31 #[.string (D1 ++ ⟨#[84]⟩ ++ K ++ Z)] wx fun e w' => e = .returned (.tuple #[.int .i64 (parseL (zs (D1 ++ ⟨#[84]⟩ ++ K ++ Z))).1, .int .i64 (parseL (zs (D1 ++ ⟨#[84]⟩ ++ K ++ Z))).2]) ∧ Below wx.heap.size wx w' := by
  intro wx hT
  have h4 : (D1 ++ ⟨#[84]⟩ ++ K ++ Z).size = D1.size + 1 + K.size + Z.size := by
    rw [ByteArray.size_append, ByteArray.size_append, ByteArray.size_append]; rfl
  exact dat_Parse _ wx (by rw [h4]; omega) hT
theorem yrS_len (w : List UInt8) : (yrS w).length ≤ 4 := by
  unfold yrS
  split
  · omega
  · split
    · simp
    · split <;> (simp only [List.length_cons]; omega)
theorem dyS_len (w : List UInt8) : (dyS w).length ≤ 2 := by
  unfold dyS
  split
  · simp only [List.length_cons]; omega
  · split
    · omega
    · simp
theorem moS_len (w : List UInt8) : (moS w).length ≤ 2 := by
  unfold moS
  split
  · unfold nS; rw [List.length_map]; exact Nat.le_refl 2
  · simp
theorem clS_len (w : List UInt8) : (clS w).length ≤ 8 := by
  unfold clS
  split
  · rw [List.length_append]; simp; omega
  · split
    · omega
    · simp
theorem zoneT_len (k : Nat) : (zoneT k).length ≤ 6 := by
  rcases Nat.lt_or_ge k 12 with g | g
  · have : ∀ j : Fin 12, (zoneT j.val).length ≤ 6 := by decide
    exact this ⟨k, g⟩
  · unfold zoneT
    rw [Array.getD_eq_getD_getElem?, Array.getElem?_eq_none (by simp; omega)]
    decide
theorem zoneM_len (w : List UInt8) : ∀ n, (zoneM n w).length ≤ 6
  | 0 => by rw [zoneM]; decide
  | n + 1 => by
    rw [zoneM]
    split
    · exact zoneT_len n
    · exact zoneM_len w n
theorem zoS_len (w : List UInt8) : (zoS w).length ≤ 6 := by
  unfold zoS
  split
  · rename_i h
    unfold signed at h
    simp only [List.length_append, List.length_cons, List.length_take, List.length_drop]; omega
  · exact zoneM_len w 12
theorem built_str (w0 w1 w2 w3 w4 : List UInt8) : ofBytes (yrS w2) ++ ⟨#[45]⟩ ++ ofBytes (moS w1) ++ ⟨#[45]⟩ ++ ofBytes (dyS w0) ++ ⟨#[84]⟩ ++ ofBytes (clS w3) ++ ofBytes (zoS w4) = ofBytes (builtS w0 w1 w2 w3 w4) := by
  apply str_ext
  rw [ofBytes_list]
  unfold builtS
  simp [ofBytes]
set_option maxRecDepth 100000 in
set_option maxHeartbeats 8000000 in
theorem rfc_Parse (s : ByteArray) (w : World) (hs : s.size ≤ 1000000) (hT : RfcT w) : Calls Tryd.prog 12 #[.string s] w fun e w' => e = .returned (.tuple #[.int .i64 (parse822 s).1, .int .i64 (parse822 s).2]) ∧ Below w.heap.size w w' := by
  have hp := parse_words s
  have hlow := wordsS_low s
  have hsize := wordsS_size s
  have hle := wordsN_le (lowL s)
  have hll := lowL_len s
  have hcl := rcol_length s.data.toList
  rw [str_len] at hcl
  have c1 : ∀ wx, _ := fun wx => text_Collapse s wx (by omega)
  have c2 : ∀ wx, _ := fun wx => rfd_lower (ofBytes (collapse s.data.toList)) wx (by rw [ofBytes_size]; omega)
  rw [ofBytes_list, show (collapse s.data.toList).map low8 = lowL s from rfl] at c2
  rw [show wordsN 6 [] (lowL s) = wordsS s from rfl] at hle
  have c3 : ∀ (m : Int) wx, wx.cell? ⟨5, 0, none⟩ = some (.int .i64 m) → Calls Tryd.prog 24 #[.string (ofBytes (lowL s)), .string ⟨#[32]⟩, .int .i64 7] wx fun e w' =>
      e = .returned (.slice (some ⟨wx.heap.size, 0, none⟩) (wordsS s).length (min 7 ((lowL s).length + 1))) ∧ (∀ j x, (wordsS s)[j]? = some x → w'.cell? ⟨wx.heap.size, j, none⟩ = some (.string (ofBytes x))) ∧ Below wx.heap.size wx w' := fun m wx hm => rfd_Split (lowL s) m wx (by omega) hm
  generalize ofBytes (lowL s) = L at *
  generalize ofBytes (collapse s.data.toList) = C at *
  generalize min 7 ((lowL s).length + 1) = cap at *
  generalize wordsS s = ps at *
  obtain ⟨n, hn⟩ : ∃ n, ps.length = n := ⟨_, rfl⟩
  rw [hn] at c3 hle
  match ps, hn with
  | [], hn => exact absurd hn (by simp; omega)
  | p0 :: rest, hn =>
    have hl0 := hlow p0 List.mem_cons_self
    have h0s := hsize p0 List.mem_cons_self
    have cW : ∀ wx, NamT wx → _ := fun wx => rfd_isWeekday (ofBytes p0) wx (by rw [ofBytes_list]; exact hl0)
    rw [ofBytes_list] at cW
    rcases hd : dayB p0 with _ | _
    · rw [hd] at cW
      rw [dropDay, if_neg (by rw [hd]; decide)] at hp
      by_cases h5 : rest.length = 4
      · obtain rfl : n = 5 := by rw [← hn, List.length_cons, h5]
        match rest, h5 with
        | [v1, v2, v3, v4], _ =>
          obtain ⟨v0, hv0⟩ : ∃ v0, v0 = p0 := ⟨_, rfl⟩
          have sz : ∀ v ∈ [v0, v1, v2, v3, v4], isLow v ∧ v.length ≤ 1000000 := fun v hv => by rw [hv0] at hv; exact ⟨hlow v hv, by have := hsize v hv; omega⟩
          have z0 := sz v0 (by simp)
          have z1 := sz v1 (by simp)
          have z2 := sz v2 (by simp)
          have z3 := sz v3 (by simp)
          have z4 := sz v4 (by simp)
          rw [← hv0] at hp cW
          rw [← hv0] at c3
          have hnc : ¬ cap = 1 := by omega
          have hncap : (5 : Int) ≤ (cap : Int) := by omega
          have hb := built_parse v0 v1 v2 v3 v4 z1.1 z4.1
          have cY : ∀ wx, _ := fun wx => rfd_year (ofBytes v2) wx (by rw [ofBytes_size]; omega)
          have cM : ∀ wx, NamT wx → _ := fun wx => rfd_month (ofBytes v1) wx (by rw [ofBytes_list]; exact z1.1)
          have cD : ∀ wx, _ := fun wx => rfd_day (ofBytes v0) wx (by rw [ofBytes_size]; omega)
          have cC : ∀ wx, _ := fun wx => rfd_clock (ofBytes v3) wx (by rw [ofBytes_size]; omega)
          have cZ : ∀ wx, _ := fun wx => rfd_offset (ofBytes v4) wx (by rw [ofBytes_size]; omega)
          rw [ofBytes_list] at cY cM cD cC cZ
          have hs1 : (ofBytes (yrS v2)).size ≤ 4 := by rw [ofBytes_size]; exact yrS_len v2
          have hs2 : (ofBytes (moS v1)).size ≤ 2 := by rw [ofBytes_size]; exact moS_len v1
          have hs3 : (ofBytes (dyS v0)).size ≤ 2 := by rw [ofBytes_size]; exact dyS_len v0
          have hs4 : (ofBytes (clS v3)).size ≤ 8 := by rw [ofBytes_size]; exact clS_len v3
          have hs5 : (ofBytes (zoS v4)).size ≤ 6 := by rw [ofBytes_size]; exact zoS_len v4
          have hz := built_str v0 v1 v2 v3 v4
          rw [← wz_zs, ← hz] at hb
          have HP := Lib.hid (hp.trans hb.symm)
          clear hz hb
          generalize ofBytes (yrS v2) = Y at *
          generalize ofBytes (moS v1) = M at *
          generalize ofBytes (dyS v0) = D at *
          generalize ofBytes (clS v3) = K at *
          generalize ofBytes (zoS v4) = Z at *
          clear sz z0 z1 z2 z3 z4 hp hlow hsize hn hd hle hll hcl hl0 h0s
          obtain rfl := hv0
          go_enter Tryd.func12, Tryd.ntmps12
          go_wp2_with fail
          refine (c1 _).mono ?_
          rintro e w1 ⟨rfl, b1⟩
          go_wp2_with fail
          refine (c2 _).mono ?_
          rintro e w2 ⟨rfl, b2⟩
          have b12 : Below w.heap.size w w2 := b1.trans (b2.mono b1.size)
          have t2 := RfcT_below hT b12
          obtain ⟨m, hm⟩ := t2.2
          go_wp2_with fail
          refine (c3 m _ hm).mono ?_
          rintro e w3 ⟨rfl, hcells, b3⟩
          have b13 : Below w.heap.size w w3 := b12.trans (b3.mono b12.size)
          have t3 := (RfcT_below hT b13).1.2
          have k0 := hcells 0 _ rfl
          have hB3 : w2.heap.size < w3.heap.size := civ_block_lt k0
          generalize hB : w2.heap.size = B at *
          clear hm t2 c1 c2 c3
          go_wp2_with fail
          refine (cW _ t3).mono ?_
          rintro e w4 ⟨rfl, b4⟩
          have b14 : Below w.heap.size w w4 := b13.trans (b4.mono b13.size)
          have hB4 : B < w4.heap.size := Nat.lt_of_lt_of_le hB3 b4.size
          have q0 : w4.cell? ⟨B, 0, none⟩ = some (.string (ofBytes v0)) := (b4.cell (p := ⟨B, 0, none⟩) hB3).trans (hcells 0 v0 rfl)
          have q1 : w4.cell? ⟨B, 1, none⟩ = some (.string (ofBytes v1)) := (b4.cell (p := ⟨B, 1, none⟩) hB3).trans (hcells 1 v1 rfl)
          have q2 : w4.cell? ⟨B, 2, none⟩ = some (.string (ofBytes v2)) := (b4.cell (p := ⟨B, 2, none⟩) hB3).trans (hcells 2 v2 rfl)
          have q3 : w4.cell? ⟨B, 3, none⟩ = some (.string (ofBytes v3)) := (b4.cell (p := ⟨B, 3, none⟩) hB3).trans (hcells 3 v3 rfl)
          have q4 : w4.cell? ⟨B, 4, none⟩ = some (.string (ofBytes v4)) := (b4.cell (p := ⟨B, 4, none⟩) hB3).trans (hcells 4 v4 rfl)
          have t4 := NamT_below t3 (b4.mono (Nat.le_refl _))
          have d4 := (RfcT_below hT b14).1.1
          have t4d : NamT w4.drew := NamT_below t4 (Below.refl _ _).drew
          have d4d : DatT w4.drew := DatT_below d4 (Below.refl _ _).drew
          clear hcells t3 cW k0 b13 b12 b1 b2 b3 b4 hT hB hB3
          generalize ofBytes v0 = V0 at *
          generalize ofBytes v1 = V1 at *
          generalize ofBytes v2 = V2 at *
          generalize ofBytes v3 = V3 at *
          generalize ofBytes v4 = V4 at *
          have n1 : ¬ 9223372036854775807 < Y.size + 1 := by omega
          have n2 : ¬ 9223372036854775807 < Y.size + 1 + M.size := by omega
          have n3 : ¬ 9223372036854775807 < Y.size + 1 + M.size + 1 := by omega
          have n4 : ¬ 9223372036854775807 < Y.size + 1 + M.size + 1 + D.size := by omega
          go_wp2
          go_region_held3 (fun w' => w'.cell? ⟨B, 0, none⟩ = some (.string V0) ∧ w'.cell? ⟨B, 1, none⟩ = some (.string V1) ∧ w'.cell? ⟨B, 2, none⟩ = some (.string V2)) (first | exact ⟨q0, q1, q2⟩ | exact hS5) (first | (go_at_call 28; refine (cY _).mono ?_; rintro e w' ⟨rfl, rfl⟩) | (go_at_call 29; refine (cM _ t4d).mono ?_; rintro e w5 ⟨rfl, b5⟩; have hS5 : w5.cell? ⟨B, 0, none⟩ = some (.string V0) ∧ w5.cell? ⟨B, 1, none⟩ = some (.string V1) ∧ w5.cell? ⟨B, 2, none⟩ = some (.string V2) := ⟨(b5.cell (p := ⟨B, 0, none⟩) hB4).trans q0, (b5.cell (p := ⟨B, 1, none⟩) hB4).trans q1, (b5.cell (p := ⟨B, 2, none⟩) hB4).trans q2⟩) | (go_at_call 30; refine (cD _).mono ?_; rintro e w' ⟨rfl, rfl⟩))
          obtain ⟨D1, hD1⟩ : ∃ D1, D1 = Y ++ ⟨#[45]⟩ ++ M ++ ⟨#[45]⟩ ++ D := ⟨_, rfl⟩
          have hd1 : D1.size ≤ 10 := by rw [hD1]; simp only [ByteArray.size_append, show (⟨#[45]⟩ : ByteArray).size = 1 from rfl]; omega
          rw [← hD1]
          rw [← hD1] at HP
          have e4 : Below w.heap.size w w4.drew := b14.drew
          have e5 : Below w.heap.size w w5 := e4.trans (b5.mono e4.size)
          have d5 : DatT w5 := DatT_below d4d b5
          have d5d : DatT w5.drew := DatT_below d5 (Below.refl _ _).drew
          have r3 : w5.cell? ⟨B, 3, none⟩ = some (.string V3) := (b5.cell (p := ⟨B, 3, none⟩) hB4).trans q3
          have r4 : w5.cell? ⟨B, 4, none⟩ = some (.string V4) := (b5.cell (p := ⟨B, 4, none⟩) hB4).trans q4
          have hB5 : B < w5.heap.size := civ_block_lt r3
          clear hD1 n1 n2 n3 n4 q0 q1 q2 q3 q4 hS5 t4 d4 t4d d4d e4 b5 b14 cY cM cD hB4 hs1 hs2 hs3
          have cP := parse_at D1 K Z hd1 hs4 hs5
          rw [← HP.out] at cP
          clear HP
          have n1 : ¬ 9223372036854775807 < D1.size + 1 := by omega
          have n2 : ¬ 9223372036854775807 < D1.size + 1 + K.size := by omega
          have n3 : ¬ 9223372036854775807 < D1.size + 1 + K.size + Z.size := by omega
          go_wp2
          go_region_held3 (fun w' => w'.cell? ⟨B, 3, none⟩ = some (.string V3) ∧ w'.cell? ⟨B, 4, none⟩ = some (.string V4)) (first | exact ⟨r3, r4⟩ | exact hS7 | exact hS8) (first | (go_at_call 32; refine (cC _).mono ?_; rintro e w' ⟨rfl, rfl⟩) | (go_at_call 33; refine (cZ _).mono ?_; rintro e w7 ⟨rfl, b7⟩; have hS7 : w7.cell? ⟨B, 3, none⟩ = some (.string V3) ∧ w7.cell? ⟨B, 4, none⟩ = some (.string V4) := ⟨(b7.cell (p := ⟨B, 3, none⟩) hB5).trans r3, (b7.cell (p := ⟨B, 4, none⟩) hB5).trans r4⟩; have d7 : DatT w7 := DatT_below d5d b7) | (go_at_call 31; refine (cP _ d7).mono ?_; rintro e w8 ⟨rfl, b8⟩; have hS8 : w8.cell? ⟨B, 3, none⟩ = some (.string V3) ∧ w8.cell? ⟨B, 4, none⟩ = some (.string V4) := ⟨(b8.cell (p := ⟨B, 3, none⟩) (Nat.lt_of_lt_of_le hB5 b7.size)).trans hS7.1, (b8.cell (p := ⟨B, 4, none⟩) (Nat.lt_of_lt_of_le hB5 b7.size)).trans hS7.2⟩))
          have e6 : Below w.heap.size w w5.drew := e5.drew
          have e7 : Below w.heap.size w w7 := e6.trans (b7.mono e6.size)
          have e8 : Below w.heap.size w w8 := e7.trans (b8.mono e7.size)
          go_wp2
          go_ret2
          exact ⟨rfl, e8⟩
      · rw [wordsV_not _ (by rw [List.length_cons]; omega)] at hp
        have HP := Lib.hid hp
        have hn5 : ((n : Int) != 5) = true := by rw [List.length_cons] at hn; simp; omega
        have hn1 : 1 ≤ (n : Int) := by omega
        have hncap : (n : Int) ≤ (cap : Int) := by omega
        clear hp hlow hsize h5 hn hd hle hll hcl hl0 h0s
        go_enter Tryd.func12, Tryd.ntmps12
        go_wp2_with fail
        refine (c1 _).mono ?_
        rintro e w1 ⟨rfl, b1⟩
        go_wp2_with fail
        refine (c2 _).mono ?_
        rintro e w2 ⟨rfl, b2⟩
        have b12 : Below w.heap.size w w2 := b1.trans (b2.mono b1.size)
        have t2 := RfcT_below hT b12
        obtain ⟨m, hm⟩ := t2.2
        go_wp2_with fail
        refine (c3 m _ hm).mono ?_
        rintro e w3 ⟨rfl, hcells, b3⟩
        have b13 : Below w.heap.size w w3 := b12.trans (b3.mono b12.size)
        have t3 := (RfcT_below hT b13).1.2
        have k0 := hcells 0 _ rfl
        have hB3 : w2.heap.size < w3.heap.size := civ_block_lt k0
        generalize hB : w2.heap.size = B at *
        clear hm t2 c1 c2 c3
        go_wp2_with fail
        refine (cW _ t3).mono ?_
        rintro e w4 ⟨rfl, b4⟩
        have b14 : Below w.heap.size w w4 := b13.trans (b4.mono b13.size)
        go_wp2
        all_goals go_ret2
        all_goals exact ⟨rretP HP.out, b14⟩
    · rw [hd] at cW
      rw [dropDay, if_pos hd] at hp
      by_cases h5 : rest.length = 5
      · obtain rfl : n = 6 := by rw [← hn, List.length_cons, h5]
        match rest, h5 with
        | [v0, v1, v2, v3, v4], _ =>
          have sz : ∀ v ∈ [v0, v1, v2, v3, v4], isLow v ∧ v.length ≤ 1000000 := fun v hv => ⟨hlow v (List.mem_cons_of_mem _ hv), by have := hsize v (List.mem_cons_of_mem _ hv); omega⟩
          have z0 := sz v0 (by simp)
          have z1 := sz v1 (by simp)
          have z2 := sz v2 (by simp)
          have z3 := sz v3 (by simp)
          have z4 := sz v4 (by simp)
          have hnc : ¬ cap = 1 := by omega
          have hncap : (6 : Int) ≤ (cap : Int) := by omega
          have hb := built_parse v0 v1 v2 v3 v4 z1.1 z4.1
          have cY : ∀ wx, _ := fun wx => rfd_year (ofBytes v2) wx (by rw [ofBytes_size]; omega)
          have cM : ∀ wx, NamT wx → _ := fun wx => rfd_month (ofBytes v1) wx (by rw [ofBytes_list]; exact z1.1)
          have cD : ∀ wx, _ := fun wx => rfd_day (ofBytes v0) wx (by rw [ofBytes_size]; omega)
          have cC : ∀ wx, _ := fun wx => rfd_clock (ofBytes v3) wx (by rw [ofBytes_size]; omega)
          have cZ : ∀ wx, _ := fun wx => rfd_offset (ofBytes v4) wx (by rw [ofBytes_size]; omega)
          rw [ofBytes_list] at cY cM cD cC cZ
          have hs1 : (ofBytes (yrS v2)).size ≤ 4 := by rw [ofBytes_size]; exact yrS_len v2
          have hs2 : (ofBytes (moS v1)).size ≤ 2 := by rw [ofBytes_size]; exact moS_len v1
          have hs3 : (ofBytes (dyS v0)).size ≤ 2 := by rw [ofBytes_size]; exact dyS_len v0
          have hs4 : (ofBytes (clS v3)).size ≤ 8 := by rw [ofBytes_size]; exact clS_len v3
          have hs5 : (ofBytes (zoS v4)).size ≤ 6 := by rw [ofBytes_size]; exact zoS_len v4
          have hz := built_str v0 v1 v2 v3 v4
          rw [← wz_zs, ← hz] at hb
          have HP := Lib.hid (hp.trans hb.symm)
          clear hz hb
          generalize ofBytes (yrS v2) = Y at *
          generalize ofBytes (moS v1) = M at *
          generalize ofBytes (dyS v0) = D at *
          generalize ofBytes (clS v3) = K at *
          generalize ofBytes (zoS v4) = Z at *
          clear sz z0 z1 z2 z3 z4 hp hlow hsize hn hd hle hll hcl hl0 h0s
          go_enter Tryd.func12, Tryd.ntmps12
          go_wp2_with fail
          refine (c1 _).mono ?_
          rintro e w1 ⟨rfl, b1⟩
          go_wp2_with fail
          refine (c2 _).mono ?_
          rintro e w2 ⟨rfl, b2⟩
          have b12 : Below w.heap.size w w2 := b1.trans (b2.mono b1.size)
          have t2 := RfcT_below hT b12
          obtain ⟨m, hm⟩ := t2.2
          go_wp2_with fail
          refine (c3 m _ hm).mono ?_
          rintro e w3 ⟨rfl, hcells, b3⟩
          have b13 : Below w.heap.size w w3 := b12.trans (b3.mono b12.size)
          have t3 := (RfcT_below hT b13).1.2
          have k0 := hcells 0 _ rfl
          have hB3 : w2.heap.size < w3.heap.size := civ_block_lt k0
          generalize hB : w2.heap.size = B at *
          clear hm t2 c1 c2 c3
          go_wp2_with fail
          refine (cW _ t3).mono ?_
          rintro e w4 ⟨rfl, b4⟩
          have b14 : Below w.heap.size w w4 := b13.trans (b4.mono b13.size)
          have hB4 : B < w4.heap.size := Nat.lt_of_lt_of_le hB3 b4.size
          have q0 : w4.cell? ⟨B, 1, none⟩ = some (.string (ofBytes v0)) := (b4.cell (p := ⟨B, 1, none⟩) hB3).trans (hcells 1 v0 rfl)
          have q1 : w4.cell? ⟨B, 2, none⟩ = some (.string (ofBytes v1)) := (b4.cell (p := ⟨B, 2, none⟩) hB3).trans (hcells 2 v1 rfl)
          have q2 : w4.cell? ⟨B, 3, none⟩ = some (.string (ofBytes v2)) := (b4.cell (p := ⟨B, 3, none⟩) hB3).trans (hcells 3 v2 rfl)
          have q3 : w4.cell? ⟨B, 4, none⟩ = some (.string (ofBytes v3)) := (b4.cell (p := ⟨B, 4, none⟩) hB3).trans (hcells 4 v3 rfl)
          have q4 : w4.cell? ⟨B, 5, none⟩ = some (.string (ofBytes v4)) := (b4.cell (p := ⟨B, 5, none⟩) hB3).trans (hcells 5 v4 rfl)
          have t4 := NamT_below t3 (b4.mono (Nat.le_refl _))
          have d4 := (RfcT_below hT b14).1.1
          have t4d : NamT w4.drew := NamT_below t4 (Below.refl _ _).drew
          have d4d : DatT w4.drew := DatT_below d4 (Below.refl _ _).drew
          clear hcells t3 cW k0 b13 b12 b1 b2 b3 b4 hT hB hB3
          generalize ofBytes v0 = V0 at *
          generalize ofBytes v1 = V1 at *
          generalize ofBytes v2 = V2 at *
          generalize ofBytes v3 = V3 at *
          generalize ofBytes v4 = V4 at *
          have n1 : ¬ 9223372036854775807 < Y.size + 1 := by omega
          have n2 : ¬ 9223372036854775807 < Y.size + 1 + M.size := by omega
          have n3 : ¬ 9223372036854775807 < Y.size + 1 + M.size + 1 := by omega
          have n4 : ¬ 9223372036854775807 < Y.size + 1 + M.size + 1 + D.size := by omega
          go_wp2
          go_region_held3 (fun w' => w'.cell? ⟨B, 1, none⟩ = some (.string V0) ∧ w'.cell? ⟨B, 2, none⟩ = some (.string V1) ∧ w'.cell? ⟨B, 3, none⟩ = some (.string V2)) (first | exact ⟨q0, q1, q2⟩ | exact hS5) (first | (go_at_call 28; refine (cY _).mono ?_; rintro e w' ⟨rfl, rfl⟩) | (go_at_call 29; refine (cM _ t4d).mono ?_; rintro e w5 ⟨rfl, b5⟩; have hS5 : w5.cell? ⟨B, 1, none⟩ = some (.string V0) ∧ w5.cell? ⟨B, 2, none⟩ = some (.string V1) ∧ w5.cell? ⟨B, 3, none⟩ = some (.string V2) := ⟨(b5.cell (p := ⟨B, 1, none⟩) hB4).trans q0, (b5.cell (p := ⟨B, 2, none⟩) hB4).trans q1, (b5.cell (p := ⟨B, 3, none⟩) hB4).trans q2⟩) | (go_at_call 30; refine (cD _).mono ?_; rintro e w' ⟨rfl, rfl⟩))
          obtain ⟨D1, hD1⟩ : ∃ D1, D1 = Y ++ ⟨#[45]⟩ ++ M ++ ⟨#[45]⟩ ++ D := ⟨_, rfl⟩
          have hd1 : D1.size ≤ 10 := by rw [hD1]; simp only [ByteArray.size_append, show (⟨#[45]⟩ : ByteArray).size = 1 from rfl]; omega
          rw [← hD1]
          rw [← hD1] at HP
          have e4 : Below w.heap.size w w4.drew := b14.drew
          have e5 : Below w.heap.size w w5 := e4.trans (b5.mono e4.size)
          have d5 : DatT w5 := DatT_below d4d b5
          have d5d : DatT w5.drew := DatT_below d5 (Below.refl _ _).drew
          have r3 : w5.cell? ⟨B, 4, none⟩ = some (.string V3) := (b5.cell (p := ⟨B, 4, none⟩) hB4).trans q3
          have r4 : w5.cell? ⟨B, 5, none⟩ = some (.string V4) := (b5.cell (p := ⟨B, 5, none⟩) hB4).trans q4
          have hB5 : B < w5.heap.size := civ_block_lt r3
          clear hD1 n1 n2 n3 n4 q0 q1 q2 q3 q4 hS5 t4 d4 t4d d4d e4 b5 b14 cY cM cD hB4 hs1 hs2 hs3
          have cP := parse_at D1 K Z hd1 hs4 hs5
          rw [← HP.out] at cP
          clear HP
          have n1 : ¬ 9223372036854775807 < D1.size + 1 := by omega
          have n2 : ¬ 9223372036854775807 < D1.size + 1 + K.size := by omega
          have n3 : ¬ 9223372036854775807 < D1.size + 1 + K.size + Z.size := by omega
          go_wp2
          go_region_held3 (fun w' => w'.cell? ⟨B, 4, none⟩ = some (.string V3) ∧ w'.cell? ⟨B, 5, none⟩ = some (.string V4)) (first | exact ⟨r3, r4⟩ | exact hS7 | exact hS8) (first | (go_at_call 32; refine (cC _).mono ?_; rintro e w' ⟨rfl, rfl⟩) | (go_at_call 33; refine (cZ _).mono ?_; rintro e w7 ⟨rfl, b7⟩; have hS7 : w7.cell? ⟨B, 4, none⟩ = some (.string V3) ∧ w7.cell? ⟨B, 5, none⟩ = some (.string V4) := ⟨(b7.cell (p := ⟨B, 4, none⟩) hB5).trans r3, (b7.cell (p := ⟨B, 5, none⟩) hB5).trans r4⟩; have d7 : DatT w7 := DatT_below d5d b7) | (go_at_call 31; refine (cP _ d7).mono ?_; rintro e w8 ⟨rfl, b8⟩; have hS8 : w8.cell? ⟨B, 4, none⟩ = some (.string V3) ∧ w8.cell? ⟨B, 5, none⟩ = some (.string V4) := ⟨(b8.cell (p := ⟨B, 4, none⟩) (Nat.lt_of_lt_of_le hB5 b7.size)).trans hS7.1, (b8.cell (p := ⟨B, 5, none⟩) (Nat.lt_of_lt_of_le hB5 b7.size)).trans hS7.2⟩))
          have e6 : Below w.heap.size w w5.drew := e5.drew
          have e7 : Below w.heap.size w w7 := e6.trans (b7.mono e6.size)
          have e8 : Below w.heap.size w w8 := e7.trans (b8.mono e7.size)
          go_wp2
          go_ret2
          exact ⟨rfl, e8⟩
      · rw [wordsV_not _ h5] at hp
        have HP := Lib.hid hp
        have hn5 : (((n - 1 : Nat) : Int) != 5) = true := by rw [List.length_cons] at hn; simp; omega
        have hn1 : 1 ≤ (n : Int) := by omega
        have hncap : (n : Int) ≤ (cap : Int) := by omega
        clear hp hlow hsize h5 hn hd hle hll hcl hl0 h0s
        go_enter Tryd.func12, Tryd.ntmps12
        go_wp2_with fail
        refine (c1 _).mono ?_
        rintro e w1 ⟨rfl, b1⟩
        go_wp2_with fail
        refine (c2 _).mono ?_
        rintro e w2 ⟨rfl, b2⟩
        have b12 : Below w.heap.size w w2 := b1.trans (b2.mono b1.size)
        have t2 := RfcT_below hT b12
        obtain ⟨m, hm⟩ := t2.2
        go_wp2_with fail
        refine (c3 m _ hm).mono ?_
        rintro e w3 ⟨rfl, hcells, b3⟩
        have b13 : Below w.heap.size w w3 := b12.trans (b3.mono b12.size)
        have t3 := (RfcT_below hT b13).1.2
        have k0 := hcells 0 _ rfl
        have hB3 : w2.heap.size < w3.heap.size := civ_block_lt k0
        generalize hB : w2.heap.size = B at *
        clear hm t2 c1 c2 c3
        go_wp2_with fail
        refine (cW _ t3).mono ?_
        rintro e w4 ⟨rfl, b4⟩
        have b14 : Below w.heap.size w w4 := b13.trans (b4.mono b13.size)
        go_wp2
        all_goals go_ret2
        all_goals exact ⟨rretP HP.out, b14⟩
end Go.Proofs.YtdbpkggjnmapiaaDoor
