/- Package rfc3339: padded: a number with zeros before it. The tables that the package reads. -/
import Derived.Test.YtdbpkggjnmapiaaDoorDatP
import Derived.Test.YtdbpkggjnmapiaaDoorCivC
import Derived.Test.YtdbpkggjnmapiaaDoorShelf
import Derived.Lib.SmallJoins
namespace Go.Proofs.YtdbpkggjnmapiaaDoor
open Go.RowKit Go.Lib Go.Sort

/-- What the package's own tables hold: civil's two, and the powers of ten of strconv. -/
def DatT (w : World) : Prop := CivT w ∧ Lib.TabIs Tryd.prog w "internal/strconv.uint64pow10" .u64 Lib.pow10Tab
theorem dat_g_pow : Tryd.prog.globalNamed "internal/strconv.uint64pow10" = some 8 := by kernel_rfl
theorem DatT_below {w w' : World} (h : DatT w) (hb : Below w.heap.size w w') : DatT w' := ⟨CivT_below h.1 hb, Go.Joins.tab_stays dat_g_pow h.2 hb (Nat.le_refl _)⟩

theorem dgrow_below (w : World) (k : Nat) (os : Array Obj) : Below w.heap.size w (grow (w.drewN k) os) :=
  ⟨rfl, rfl, rfl, by show w.heap.size ≤ (w.heap ++ os).size; rw [Array.size_append]; omega, fun j hj => by show (w.heap ++ os)[j]? = w.heap[j]?; rw [Array.getElem?_append_left hj]⟩
def digS (n : Nat) : ByteArray := ⟨(Lib.decDigits n).toArray⟩
theorem dd1 (n : Nat) (h : n < 10) : Lib.decDigits n = [UInt8.ofNat (48 + n)] := by rw [Lib.decDigits, dif_pos h]
theorem dd2 (n : Nat) (h1 : 10 ≤ n) (h : n < 100) : Lib.decDigits n = [UInt8.ofNat (48 + n / 10), UInt8.ofNat (48 + n % 10)] := by
  rw [Lib.decDigits, dif_neg (by omega), dd1 _ (by omega)]; rfl
theorem dd3 (n : Nat) (h1 : 100 ≤ n) (h : n < 1000) : Lib.decDigits n = [UInt8.ofNat (48 + n / 100), UInt8.ofNat (48 + n / 10 % 10), UInt8.ofNat (48 + n % 10)] := by
  rw [Lib.decDigits, dif_neg (by omega), dd2 _ (by omega) (by omega), Nat.div_div_eq_div_mul]; rfl
theorem dd4 (n : Nat) (h1 : 1000 ≤ n) (h : n < 10000) : Lib.decDigits n = [UInt8.ofNat (48 + n / 1000), UInt8.ofNat (48 + n / 100 % 10), UInt8.ofNat (48 + n / 10 % 10), UInt8.ofNat (48 + n % 10)] := by
  rw [Lib.decDigits, dif_neg (by omega), dd3 _ (by omega) (by omega), Nat.div_div_eq_div_mul, Nat.div_div_eq_div_mul]; rfl
/-- So many zeros before the digits. -/
def padS (c n : Nat) : ByteArray := ⟨(Lib.repeatL [48] c).toArray⟩ ++ digS n
theorem padS_list (c n : Nat) : (padS c n).data.toList = Lib.repeatL [48] c ++ Lib.decDigits n := by simp [padS, digS]
theorem pad2_eq (n : Nat) (h : n ≤ 99) : ∃ c, c + (digS n).size = 2 ∧ padS c n = strOfNums (d2 n) := by
  have hs : ∀ k, (digS k).size = (Lib.decDigits k).length := fun k => rfl
  rw [hs]
  rcases (by omega : n < 10 ∨ (10 ≤ n ∧ n < 100)) with g | ⟨g1, g2⟩
  · refine ⟨1, by rw [dd1 n g]; rfl, str_ext ?_⟩
    rw [padS_list, dd1 n g, strOfNums_data]
    simp only [Lib.repeatL, d2, List.map_cons, List.map_nil, List.cons_append, List.nil_append]
    rw [show (48 + (n : Int) / 10).toNat = 48 by omega, show (48 + (n : Int) % 10).toNat = 48 + n by omega]
    rfl
  · refine ⟨0, by rw [dd2 n g1 g2]; rfl, str_ext ?_⟩
    rw [padS_list, dd2 n g1 g2, strOfNums_data]
    simp only [Lib.repeatL, d2, List.map_cons, List.map_nil, List.nil_append]
    rw [show (48 + (n : Int) / 10).toNat = 48 + n / 10 by omega, show (48 + (n : Int) % 10).toNat = 48 + n % 10 by omega]
theorem pad4_eq (n : Nat) (h : n ≤ 9999) : ∃ c, c + (digS n).size = 4 ∧ padS c n = strOfNums (d4 n) := by
  have hs : ∀ k, (digS k).size = (Lib.decDigits k).length := fun k => rfl
  rw [hs]
  rcases (by omega : n < 10 ∨ (10 ≤ n ∧ n < 100) ∨ (100 ≤ n ∧ n < 1000) ∨ (1000 ≤ n ∧ n < 10000)) with g | ⟨g1, g2⟩ | ⟨g1, g2⟩ | ⟨g1, g2⟩
  · refine ⟨3, by rw [dd1 n g]; rfl, str_ext ?_⟩
    rw [padS_list, dd1 n g, strOfNums_data]
    simp only [Lib.repeatL, d4, List.map_cons, List.map_nil, List.cons_append, List.nil_append]
    rw [show (48 + (n : Int) / 1000).toNat = 48 by omega, show (48 + (n : Int) / 100 % 10).toNat = 48 by omega, show (48 + (n : Int) / 10 % 10).toNat = 48 by omega, show (48 + (n : Int) % 10).toNat = 48 + n by omega]
    rfl
  · refine ⟨2, by rw [dd2 n g1 g2]; rfl, str_ext ?_⟩
    rw [padS_list, dd2 n g1 g2, strOfNums_data]
    simp only [Lib.repeatL, d4, List.map_cons, List.map_nil, List.cons_append, List.nil_append]
    rw [show (48 + (n : Int) / 1000).toNat = 48 by omega, show (48 + (n : Int) / 100 % 10).toNat = 48 by omega, show (48 + (n : Int) / 10 % 10).toNat = 48 + n / 10 by omega, show (48 + (n : Int) % 10).toNat = 48 + n % 10 by omega]
    rfl
  · refine ⟨1, by rw [dd3 n g1 g2]; rfl, str_ext ?_⟩
    rw [padS_list, dd3 n g1 g2, strOfNums_data]
    simp only [Lib.repeatL, d4, List.map_cons, List.map_nil, List.cons_append, List.nil_append]
    rw [show (48 + (n : Int) / 1000).toNat = 48 by omega, show (48 + (n : Int) / 100 % 10).toNat = 48 + n / 100 by omega, show (48 + (n : Int) / 10 % 10).toNat = 48 + n / 10 % 10 by omega, show (48 + (n : Int) % 10).toNat = 48 + n % 10 by omega]
    rfl
  · refine ⟨0, by rw [dd4 n g1 g2]; rfl, str_ext ?_⟩
    rw [padS_list, dd4 n g1 g2, strOfNums_data]
    simp only [Lib.repeatL, d4, List.map_cons, List.map_nil, List.nil_append]
    rw [show (48 + (n : Int) / 1000).toNat = 48 + n / 1000 by omega, show (48 + (n : Int) / 100 % 10).toNat = 48 + n / 100 % 10 by omega, show (48 + (n : Int) / 10 % 10).toNat = 48 + n / 10 % 10 by omega, show (48 + (n : Int) % 10).toNat = 48 + n % 10 by omega]

theorem retS1 {a b : ByteArray} (h : a = b) : Ending.returned (.string a) = .returned (.string b) := by rw [h]
set_option maxHeartbeats 2000000 in
theorem dat_padded (n c : Nat) (wd : Int) (w : World) (hn : n ≤ 9999) (hwd : 0 ≤ wd ∧ wd ≤ 4) (hc : (c : Int) + ((digS n).size : Int) = wd) (hT : DatT w) :
    Calls Tryd.prog 49 #[.int .i64 n, .int .i64 wd] w fun e w' => e = .returned (.string (padS c n)) ∧ Below w.heap.size w w' := by
  have c1 := Tryd.strconv_Itoa (n : Int) (by omega) (by omega) w hT.2
  rw [show (⟨(Lib.itoa (n : Int)).toArray⟩ : ByteArray) = digS n by unfold Lib.itoa digS; rw [if_neg (by omega), Int.toNat_natCast]] at c1
  have c2 : ∀ wx, _ := fun wx => Tryd.strings_Repeat ⟨#[48]⟩ c wx (by omega) (by show 1 * c ≤ _; omega)
  have hp : (⟨(Lib.repeatL (⟨#[48]⟩ : ByteArray).data.toList c).toArray⟩ : ByteArray) ++ digS n = padS c n := rfl
  have hz : (⟨(Lib.repeatL (⟨#[48]⟩ : ByteArray).data.toList c).toArray⟩ : ByteArray).size = c := by
    show (Lib.repeatL [48] c).length = c
    rw [Lib.repeatL_length]; simp
  obtain ⟨z, hzd⟩ : ∃ z, z = (⟨(Lib.repeatL (⟨#[48]⟩ : ByteArray).data.toList c).toArray⟩ : ByteArray) := ⟨_, rfl⟩
  rw [← hzd] at c2 hz hp
  obtain ⟨D, hD⟩ : ∃ D, D = digS n := ⟨_, rfl⟩
  rw [← hD] at c1 hp hc
  obtain ⟨k, hk⟩ : ∃ k : Int, k = wd - (D.size : Int) := ⟨_, rfl⟩
  have hck : (c : Int) = wd - (D.size : Int) := by omega
  rw [hck] at c2
  have hd : (D.size : Int) ≤ 4 := by omega
  have hd0 : (D.size : Int) ≤ wd := by omega
  have HP := Lib.hid hp
  have hz4 : (z.size : Int) ≤ 4 := by omega
  clear hp hck hzd hD hk hc hz hn
  go_enter Tryd.func49, Tryd.ntmps49
  go_wp2_with fail
  refine c1.mono ?_
  rintro e w1 ⟨rfl, gk, gos, rfl⟩
  have b1 : Below w.heap.size w (grow (w.drewN gk) gos) := dgrow_below w gk gos
  generalize grow (w.drewN gk) gos = w1 at *
  go_wp2_with fail
  refine (c2 _).mono ?_
  rintro e w2 ⟨rfl, b2⟩
  go_wp2
  go_ret
  have k1 := b1.size
  exact ⟨retS1 HP.out, b1.trans (b2.mono (by omega))⟩
theorem dat_pad2 (n : Int) (w : World) (h0 : 0 ≤ n) (h1 : n ≤ 99) (hT : DatT w) :
    Calls Tryd.prog 49 #[.int .i64 n, .int .i64 2] w fun e w' => e = .returned (.string (strOfNums (d2 n))) ∧ Below w.heap.size w w' := by
  obtain ⟨k, rfl⟩ := Int.eq_ofNat_of_zero_le h0
  obtain ⟨c, hc, he⟩ := pad2_eq k (by omega)
  rw [← he]
  exact dat_padded k c 2 w (by omega) (by omega) (by omega) hT
theorem dat_pad4 (n : Int) (w : World) (h0 : 0 ≤ n) (h1 : n ≤ 9999) (hT : DatT w) :
    Calls Tryd.prog 49 #[.int .i64 n, .int .i64 4] w fun e w' => e = .returned (.string (strOfNums (d4 n))) ∧ Below w.heap.size w w' := by
  obtain ⟨k, rfl⟩ := Int.eq_ofNat_of_zero_le h0
  obtain ⟨c, hc, he⟩ := pad4_eq k (by omega)
  rw [← he]
  exact dat_padded k c 4 w (by omega) (by omega) (by omega) hT
end Go.Proofs.YtdbpkggjnmapiaaDoor
