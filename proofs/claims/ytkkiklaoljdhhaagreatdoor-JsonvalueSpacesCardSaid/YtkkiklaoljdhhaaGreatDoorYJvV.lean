/- Packed from the texts JvV. -/
import Derived.Test.YtkkiklaoljdhhaaGreatDoorYJvK
import Derived.Test.YtkkiklaoljdhhaaGreatDoorYkJ
section
namespace Go.Proofs.YtkkiklaoljdhhaaGreatDoor
open Go.RowKit
def ResIs (w : World) (B n i : Nat) : Jres → Value → Prop
  | .err a e, x => x = errV a e ∧ e ≠ 0
  | .ok v k, x => i + k ≤ n ∧ ∃ p c q d, x = resV v.kind v.b v.n v.s p v.items.length c q v.mems.length d v.at' ((i + k : Nat) : Int) 0 ∧ ItemsAt (sans w (low B)) p 0 v.items ∧ MemsAt (sans w (low B)) q 0 v.mems
theorem ResIs.plus {w : World} {B n i c : Nat} {R : Jres} {x : Value} (h : ResIs w B n (i + c) R x) : ResIs w B n i (R.plus c) x := by
  cases R with
  | err a e => exact h
  | ok v k =>
    obtain ⟨h1, p, c', q, d, h2, h3⟩ := h
    exact ⟨by show i + (c + k) ≤ n; omega, p, c', q, d, by rw [h2, show i + c + k = i + (c + k) by omega], h3⟩
theorem ResIs.go {w w' : World} {B B' n i : Nat} {R : Jres} {x : Value} (h : ResIs w B n i R x) (hg : Gos w (low B) w' (low B')) : ResIs w' B' n i R x := by
  cases R with
  | err a e => exact h
  | ok v k =>
    obtain ⟨h1, p, c', q, d, h2, h3, h4⟩ := h
    exact ⟨h1, p, c', q, d, h2, ItemsAt.mono (fun a u => hg.cell a u) _ _ _ h3, MemsAt.mono (fun a u => hg.cell a u) _ _ _ h4⟩
theorem resIs_leaf {w : World} {B0 n i k : Nat} {K N : Int} {B : Bool} {x : ByteArray} {a u : Int} (h : i + k ≤ n) (ha : a = (i : Int)) (hu : u = ((i + k : Nat) : Int)) : ResIs w B0 n i (.ok (leafV K B N x i) k) (resV K B N x none 0 0 none 0 0 a u 0) := by
  subst ha hu
  exact ⟨h, none, 0, none, 0, rfl, by rw [leafV, ValD.items, ItemsAt]; trivial, by rw [leafV, ValD.mems, MemsAt]; trivial⟩
theorem resIs_wrong {w : World} {B0 n i : Nat} {l : List UInt8} : ResIs w B0 n i (.err (wrongK i l).1 (wrongK i l).2) (errV (wrongK i l).1 (wrongK i l).2) := by
  refine ⟨rfl, ?_⟩
  unfold wrongK
  split <;> simp
theorem resIs_word {w : World} {B0 : Nat} {l t : List UInt8} {i : Nat} {K : Int} {B : Bool} (hi : i ≤ l.length) : ResIs w B0 l.length i (wordK i (l.drop i) t K B) (if hasP l (i : Int) t = true then resV K B 0 ⟨#[]⟩ none 0 0 none 0 0 i ((i + t.length : Nat) : Int) 0 else errV (wrongE l.length i).1 (wrongE l.length i).2) := by
  have e : hasP l (i : Int) t = t.isPrefixOf (l.drop i) := by unfold hasP; rw [Int.toNat_natCast, decide_eq_true (by omega), Bool.true_and]
  rw [e, wrongE_drop l i hi]
  unfold wordK
  by_cases h : t.isPrefixOf (l.drop i) = true
  · rw [if_pos h, if_pos h]
    have := (List.isPrefixOf_iff_prefix.1 h).length_le
    rw [List.length_drop] at this
    exact resIs_leaf (by omega) rfl rfl
  · rw [if_neg h, if_neg h]
    exact resIs_wrong
def JlC (f : Nat) : Prop := ∀ (s : ByteArray) (i d : Nat) (w : World), s.size ≤ 1000000 → i < s.size → d ≤ 100 → 3 * (s.size - i) ≤ f → (s.data.toList.getD i 0 = 91 ∨ s.data.toList.getD i 0 = 123) →
  Calls Tryz.prog 48 #[.string s, .int .i64 i, .int .i64 d] w fun e w' => (∃ x, e = .returned x ∧ ResIs w' w.heap.size s.size i (headK (f + 1) i (s.data.toList.drop i) d) x) ∧ Below w.heap.size w w'
def JvC' (f : Nat) : Prop := ∀ (s : ByteArray) (i d : Nat) (w : World), s.size ≤ 1000000 → i ≤ s.size → d ≤ 1000 → 3 * (s.size - i) + 2 ≤ f →
  Calls Tryz.prog 23 #[.string s, .int .i64 i, .int .i64 d] w fun e w' => (∃ x, e = .returned x ∧ ResIs w' w.heap.size s.size i (valK f i (s.data.toList.drop i) d) x) ∧ Below w.heap.size w w'
set_option maxRecDepth 100000 in
set_option maxHeartbeats 32000000 in
theorem jref_value (f : Nat) (HLl : JlC f) : JvC' (f + 2) := by
  intro s i d w hs hi hd hf
  have hsl : s.data.toList.length = s.size := by simp
  have cS : ∀ wx, _ := fun wx => jref_spaces s i wx hs (by omega)
  have hsp := spP_le s.data.toList i (by omega)
  have hval : valK (f + 2) i (s.data.toList.drop i) d = (headK (f + 1) (i + spN (s.data.toList.drop i)) ((s.data.toList.drop i).drop (spN (s.data.toList.drop i))) d).plus (spN (s.data.toList.drop i)) := by rw [valK]
  have hsu := spP_spN s.data.toList i
  rw [List.drop_drop, ← hsu] at hval
  obtain ⟨u, hu⟩ : ∃ u, spP s.data.toList i = u := ⟨_, rfl⟩
  rw [hu] at hval hsp cS hsu
  rw [hsl] at hsp
  have HVv := Lib.hid (fun (w' : World) (x : Value) (h : ResIs w' w.heap.size s.size u (headK (f + 1) u (s.data.toList.drop u) d) x) => show ResIs w' w.heap.size s.size i (valK (f + 2) i (s.data.toList.drop i) d) x by rw [hval]; rw [hsu] at h; rw [hsu]; exact h.plus)
  obtain ⟨V, hV⟩ : ∃ V, valK (f + 2) i (s.data.toList.drop i) d = V := ⟨_, rfl⟩
  rw [hV] at HVv ⊢
  clear hval hV
  have hB := Bj.new w #[.int .i64 0, .bool false, .int .i64 0, .string ⟨#[]⟩, .slice none 0 0, .slice none 0 0, .int .i64 0, .int .i64 0, .int .i64 0] 54
  have hbw : Below w.heap.size w (w.alloc (.cells #[.int .i64 0, .bool false, .int .i64 0, .string ⟨#[]⟩, .slice none 0 0, .slice none 0 0, .int .i64 0, .int .i64 0, .int .i64 0] 54)) := (Below.refl _ _).alloc (Nat.le_refl _) _
  have cW : ∀ wx, _ := fun wx => jref_wrong s u wx
  by_cases hus : u = s.size
  · have hnil : s.data.toList.drop u = [] := List.drop_eq_nil_of_le (by omega)
    have hH : headK (f + 1) u (s.data.toList.drop u) d = .err u 8 := by rw [hnil, headK, if_pos rfl]
    rw [show wrongE s.size u = ((u : Int), 8) by unfold wrongE; rw [if_pos (by omega), hus]] at cW
    simp only at cW
    have HXx := Lib.hid (fun w' => HVv.out w' (errV u 8) (by rw [hH]; exact ⟨rfl, by decide⟩))
    have hge : s.size ≤ u := by omega
    have huz : ¬ (u : Int) < (s.size : Int) := by omega
    unfold errV at cW
    clear hH hnil hus hsp hsu hu HVv
    go_enter Tryz.func23, Tryz.ntmps23
    go_wp2_with fail
    refine (cS _).mono ?_
    rintro en w3 ⟨rfl, rfl⟩
    generalize (w.alloc (.cells #[.int .i64 0, .bool false, .int .i64 0, .string ⟨#[]⟩, .slice none 0 0, .slice none 0 0, .int .i64 0, .int .i64 0, .int .i64 0] 54)) = W at *
    go_wp2_with fail
    refine (cW _).mono ?_
    rintro en w3 ⟨rfl, b3⟩
    obtain ⟨⟨r0, r1, r2, r3, r4, r5, r6, r7, r8⟩, k0, k1, k2, k3, k4, k5, k6, k7, k8⟩ := (hB.more b3).nine
    have HBo := Lib.hid (hbw.trans (b3.mono hbw.size))
    clear b3 hB hbw
    go_wp2
    refine bodyPost_ret (v := errV u 8) (by simp [results, Tryz.results23, go_sem, errV, jset_same, r0, r1, r2, r3, r4, r5, r6, r7, r8]) rfl ⟨⟨_, rfl, HXx.out _⟩, ?_⟩
    exact (jset9 (Pj.refl (fun b => b = w.heap.size) w3) (b := w.heap.size) (.inl rfl) 0 _ _ _ _ _ _ _ _ _).below HBo.out (fun b hb => by omega) HBo.out.size
  have hul : u < s.size := by omega
  have hune : s.data.toList.drop u ≠ [] := fun e => by
    have := congrArg List.length e
    rw [List.length_drop, hsl] at this
    simp at this
    omega
  have hix := jix s .i64 (u : Int) u rfl hul
  have hge : ¬ s.size ≤ u := by omega
  have huz : (u : Int) < (s.size : Int) := by omega
  have hhead := headK.eq_2 u (s.data.toList.drop u) d f
  rw [if_neg hune, getD_drop0] at hhead
  have HHd := Lib.hid hhead
  clear hhead hsu hu hus
  obtain ⟨ch, hch⟩ : ∃ x, s.data.toList.getD u 0 = x := ⟨_, rfl⟩
  rw [hch] at hix HHd
  by_cases c110 : ch = 110
  · subst c110
    have hH : headK (f + 1) u (s.data.toList.drop u) d = wordK u (s.data.toList.drop u) [110, 117, 108, 108] 0 false := HHd.out.trans rfl
    have hw := resIs_word (w := w) (B0 := 0) (l := s.data.toList) (t := [110, 117, 108, 108]) (K := 0) (B := false) (i := u) (by omega)
    have cD : ∀ wx, _ := fun wx => jref_word s ⟨#[110, 117, 108, 108]⟩ u 0 false wx hs (by decide) (by decide) (by omega)
    rw [show ((⟨#[110, 117, 108, 108]⟩ : ByteArray).data.toList) = [110, 117, 108, 108] from rfl, show (⟨#[110, 117, 108, 108]⟩ : ByteArray).size = 4 from rfl] at cD
    have HXz := Lib.hid (fun w' => HVv.out w' (if hasP s.data.toList (u : Int) [110, 117, 108, 108] = true then resV 0 false 0 ⟨#[]⟩ none 0 0 none 0 0 u ((u + 4 : Nat) : Int) 0 else errV (wrongE s.size u).1 (wrongE s.size u).2) (by
      have hw' := resIs_word (w := w') (B0 := w.heap.size) (l := s.data.toList) (t := [110, 117, 108, 108]) (K := 0) (B := false) (i := u) (by omega)
      rw [hsl] at hw'
      rw [hH]
      exact hw'))
    clear hH hw HHd HVv cW hsl hune hch
    generalize hasP s.data.toList (u : Int) [110, 117, 108, 108] = hb at *
    generalize (wrongE s.size u).1 = y1 at *
    generalize (wrongE s.size u).2 = y2 at *
    rcases hb with _ | _
    · have HXx := Lib.hid (fun w' => (show ResIs w' w.heap.size s.size i V (errV y1 y2) from HXz.out w'))
      simp only [Bool.false_eq_true, if_false] at cD
      unfold errV at cD
      go_enter Tryz.func23, Tryz.ntmps23
      go_wp2_with fail
      refine (cS _).mono ?_
      rintro en w3 ⟨rfl, rfl⟩
      generalize (w.alloc (.cells #[.int .i64 0, .bool false, .int .i64 0, .string ⟨#[]⟩, .slice none 0 0, .slice none 0 0, .int .i64 0, .int .i64 0, .int .i64 0] 54)) = W at *
      go_wp2_with fail
      refine (cD _).mono ?_
      rintro en w3 ⟨rfl, b3⟩
      obtain ⟨⟨r0, r1, r2, r3, r4, r5, r6, r7, r8⟩, k0, k1, k2, k3, k4, k5, k6, k7, k8⟩ := (hB.more b3).nine
      have HBo := Lib.hid (hbw.trans (b3.mono hbw.size))
      clear b3 hB hbw
      go_wp2
      refine bodyPost_ret (v := errV y1 y2) (by simp [results, Tryz.results23, go_sem, errV, jset_same, r0, r1, r2, r3, r4, r5, r6, r7, r8]) rfl ⟨⟨_, rfl, HXx.out _⟩, ?_⟩
      exact (jset9 (Pj.refl (fun b => b = w.heap.size) w3) (b := w.heap.size) (.inl rfl) 0 _ _ _ _ _ _ _ _ _).below HBo.out (fun b hb => by omega) HBo.out.size
    · have HXx := Lib.hid (fun w' => (show ResIs w' w.heap.size s.size i V (resV 0 false 0 ⟨#[]⟩ none 0 0 none 0 0 u ((u + 4 : Nat) : Int) 0) from HXz.out w'))
      simp only [if_true] at cD
      unfold resV at cD
      go_enter Tryz.func23, Tryz.ntmps23
      go_wp2_with fail
      refine (cS _).mono ?_
      rintro en w3 ⟨rfl, rfl⟩
      generalize (w.alloc (.cells #[.int .i64 0, .bool false, .int .i64 0, .string ⟨#[]⟩, .slice none 0 0, .slice none 0 0, .int .i64 0, .int .i64 0, .int .i64 0] 54)) = W at *
      go_wp2_with fail
      refine (cD _).mono ?_
      rintro en w3 ⟨rfl, b3⟩
      obtain ⟨⟨r0, r1, r2, r3, r4, r5, r6, r7, r8⟩, k0, k1, k2, k3, k4, k5, k6, k7, k8⟩ := (hB.more b3).nine
      have HBo := Lib.hid (hbw.trans (b3.mono hbw.size))
      clear b3 hB hbw
      go_wp2
      refine bodyPost_ret (v := resV 0 false 0 ⟨#[]⟩ none 0 0 none 0 0 u ((u + 4 : Nat) : Int) 0) (by simp [results, Tryz.results23, go_sem, resV, jset_same, r0, r1, r2, r3, r4, r5, r6, r7, r8]) rfl ⟨⟨_, rfl, HXx.out _⟩, ?_⟩
      exact (jset9 (Pj.refl (fun b => b = w.heap.size) w3) (b := w.heap.size) (.inl rfl) 0 _ _ _ _ _ _ _ _ _).below HBo.out (fun b hb => by omega) HBo.out.size
  by_cases c116 : ch = 116
  · subst c116
    have hH : headK (f + 1) u (s.data.toList.drop u) d = wordK u (s.data.toList.drop u) [116, 114, 117, 101] 1 true := HHd.out.trans rfl
    have hw := resIs_word (w := w) (B0 := 0) (l := s.data.toList) (t := [116, 114, 117, 101]) (K := 1) (B := true) (i := u) (by omega)
    have cD : ∀ wx, _ := fun wx => jref_word s ⟨#[116, 114, 117, 101]⟩ u 1 true wx hs (by decide) (by decide) (by omega)
    rw [show ((⟨#[116, 114, 117, 101]⟩ : ByteArray).data.toList) = [116, 114, 117, 101] from rfl, show (⟨#[116, 114, 117, 101]⟩ : ByteArray).size = 4 from rfl] at cD
    have HXz := Lib.hid (fun w' => HVv.out w' (if hasP s.data.toList (u : Int) [116, 114, 117, 101] = true then resV 1 true 0 ⟨#[]⟩ none 0 0 none 0 0 u ((u + 4 : Nat) : Int) 0 else errV (wrongE s.size u).1 (wrongE s.size u).2) (by
      have hw' := resIs_word (w := w') (B0 := w.heap.size) (l := s.data.toList) (t := [116, 114, 117, 101]) (K := 1) (B := true) (i := u) (by omega)
      rw [hsl] at hw'
      rw [hH]
      exact hw'))
    clear hH hw HHd HVv cW hsl hune hch
    generalize hasP s.data.toList (u : Int) [116, 114, 117, 101] = hb at *
    generalize (wrongE s.size u).1 = y1 at *
    generalize (wrongE s.size u).2 = y2 at *
    rcases hb with _ | _
    · have HXx := Lib.hid (fun w' => (show ResIs w' w.heap.size s.size i V (errV y1 y2) from HXz.out w'))
      simp only [Bool.false_eq_true, if_false] at cD
      unfold errV at cD
      go_enter Tryz.func23, Tryz.ntmps23
      go_wp2_with fail
      refine (cS _).mono ?_
      rintro en w3 ⟨rfl, rfl⟩
      generalize (w.alloc (.cells #[.int .i64 0, .bool false, .int .i64 0, .string ⟨#[]⟩, .slice none 0 0, .slice none 0 0, .int .i64 0, .int .i64 0, .int .i64 0] 54)) = W at *
      go_wp2_with fail
      refine (cD _).mono ?_
      rintro en w3 ⟨rfl, b3⟩
      obtain ⟨⟨r0, r1, r2, r3, r4, r5, r6, r7, r8⟩, k0, k1, k2, k3, k4, k5, k6, k7, k8⟩ := (hB.more b3).nine
      have HBo := Lib.hid (hbw.trans (b3.mono hbw.size))
      clear b3 hB hbw
      go_wp2
      refine bodyPost_ret (v := errV y1 y2) (by simp [results, Tryz.results23, go_sem, errV, jset_same, r0, r1, r2, r3, r4, r5, r6, r7, r8]) rfl ⟨⟨_, rfl, HXx.out _⟩, ?_⟩
      exact (jset9 (Pj.refl (fun b => b = w.heap.size) w3) (b := w.heap.size) (.inl rfl) 0 _ _ _ _ _ _ _ _ _).below HBo.out (fun b hb => by omega) HBo.out.size
    · have HXx := Lib.hid (fun w' => (show ResIs w' w.heap.size s.size i V (resV 1 true 0 ⟨#[]⟩ none 0 0 none 0 0 u ((u + 4 : Nat) : Int) 0) from HXz.out w'))
      simp only [if_true] at cD
      unfold resV at cD
      go_enter Tryz.func23, Tryz.ntmps23
      go_wp2_with fail
      refine (cS _).mono ?_
      rintro en w3 ⟨rfl, rfl⟩
      generalize (w.alloc (.cells #[.int .i64 0, .bool false, .int .i64 0, .string ⟨#[]⟩, .slice none 0 0, .slice none 0 0, .int .i64 0, .int .i64 0, .int .i64 0] 54)) = W at *
      go_wp2_with fail
      refine (cD _).mono ?_
      rintro en w3 ⟨rfl, b3⟩
      obtain ⟨⟨r0, r1, r2, r3, r4, r5, r6, r7, r8⟩, k0, k1, k2, k3, k4, k5, k6, k7, k8⟩ := (hB.more b3).nine
      have HBo := Lib.hid (hbw.trans (b3.mono hbw.size))
      clear b3 hB hbw
      go_wp2
      refine bodyPost_ret (v := resV 1 true 0 ⟨#[]⟩ none 0 0 none 0 0 u ((u + 4 : Nat) : Int) 0) (by simp [results, Tryz.results23, go_sem, resV, jset_same, r0, r1, r2, r3, r4, r5, r6, r7, r8]) rfl ⟨⟨_, rfl, HXx.out _⟩, ?_⟩
      exact (jset9 (Pj.refl (fun b => b = w.heap.size) w3) (b := w.heap.size) (.inl rfl) 0 _ _ _ _ _ _ _ _ _).below HBo.out (fun b hb => by omega) HBo.out.size
  by_cases c102 : ch = 102
  · subst c102
    have hH : headK (f + 1) u (s.data.toList.drop u) d = wordK u (s.data.toList.drop u) [102, 97, 108, 115, 101] 1 false := HHd.out.trans rfl
    have hw := resIs_word (w := w) (B0 := 0) (l := s.data.toList) (t := [102, 97, 108, 115, 101]) (K := 1) (B := false) (i := u) (by omega)
    have cD : ∀ wx, _ := fun wx => jref_word s ⟨#[102, 97, 108, 115, 101]⟩ u 1 false wx hs (by decide) (by decide) (by omega)
    rw [show ((⟨#[102, 97, 108, 115, 101]⟩ : ByteArray).data.toList) = [102, 97, 108, 115, 101] from rfl, show (⟨#[102, 97, 108, 115, 101]⟩ : ByteArray).size = 5 from rfl] at cD
    have HXz := Lib.hid (fun w' => HVv.out w' (if hasP s.data.toList (u : Int) [102, 97, 108, 115, 101] = true then resV 1 false 0 ⟨#[]⟩ none 0 0 none 0 0 u ((u + 5 : Nat) : Int) 0 else errV (wrongE s.size u).1 (wrongE s.size u).2) (by
      have hw' := resIs_word (w := w') (B0 := w.heap.size) (l := s.data.toList) (t := [102, 97, 108, 115, 101]) (K := 1) (B := false) (i := u) (by omega)
      rw [hsl] at hw'
      rw [hH]
      exact hw'))
    clear hH hw HHd HVv cW hsl hune hch
    generalize hasP s.data.toList (u : Int) [102, 97, 108, 115, 101] = hb at *
    generalize (wrongE s.size u).1 = y1 at *
    generalize (wrongE s.size u).2 = y2 at *
    rcases hb with _ | _
    · have HXx := Lib.hid (fun w' => (show ResIs w' w.heap.size s.size i V (errV y1 y2) from HXz.out w'))
      simp only [Bool.false_eq_true, if_false] at cD
      unfold errV at cD
      go_enter Tryz.func23, Tryz.ntmps23
      go_wp2_with fail
      refine (cS _).mono ?_
      rintro en w3 ⟨rfl, rfl⟩
      generalize (w.alloc (.cells #[.int .i64 0, .bool false, .int .i64 0, .string ⟨#[]⟩, .slice none 0 0, .slice none 0 0, .int .i64 0, .int .i64 0, .int .i64 0] 54)) = W at *
      go_wp2_with fail
      refine (cD _).mono ?_
      rintro en w3 ⟨rfl, b3⟩
      obtain ⟨⟨r0, r1, r2, r3, r4, r5, r6, r7, r8⟩, k0, k1, k2, k3, k4, k5, k6, k7, k8⟩ := (hB.more b3).nine
      have HBo := Lib.hid (hbw.trans (b3.mono hbw.size))
      clear b3 hB hbw
      go_wp2
      refine bodyPost_ret (v := errV y1 y2) (by simp [results, Tryz.results23, go_sem, errV, jset_same, r0, r1, r2, r3, r4, r5, r6, r7, r8]) rfl ⟨⟨_, rfl, HXx.out _⟩, ?_⟩
      exact (jset9 (Pj.refl (fun b => b = w.heap.size) w3) (b := w.heap.size) (.inl rfl) 0 _ _ _ _ _ _ _ _ _).below HBo.out (fun b hb => by omega) HBo.out.size
    · have HXx := Lib.hid (fun w' => (show ResIs w' w.heap.size s.size i V (resV 1 false 0 ⟨#[]⟩ none 0 0 none 0 0 u ((u + 5 : Nat) : Int) 0) from HXz.out w'))
      simp only [if_true] at cD
      unfold resV at cD
      go_enter Tryz.func23, Tryz.ntmps23
      go_wp2_with fail
      refine (cS _).mono ?_
      rintro en w3 ⟨rfl, rfl⟩
      generalize (w.alloc (.cells #[.int .i64 0, .bool false, .int .i64 0, .string ⟨#[]⟩, .slice none 0 0, .slice none 0 0, .int .i64 0, .int .i64 0, .int .i64 0] 54)) = W at *
      go_wp2_with fail
      refine (cD _).mono ?_
      rintro en w3 ⟨rfl, b3⟩
      obtain ⟨⟨r0, r1, r2, r3, r4, r5, r6, r7, r8⟩, k0, k1, k2, k3, k4, k5, k6, k7, k8⟩ := (hB.more b3).nine
      have HBo := Lib.hid (hbw.trans (b3.mono hbw.size))
      clear b3 hB hbw
      go_wp2
      refine bodyPost_ret (v := resV 1 false 0 ⟨#[]⟩ none 0 0 none 0 0 u ((u + 5 : Nat) : Int) 0) (by simp [results, Tryz.results23, go_sem, resV, jset_same, r0, r1, r2, r3, r4, r5, r6, r7, r8]) rfl ⟨⟨_, rfl, HXx.out _⟩, ?_⟩
      exact (jset9 (Pj.refl (fun b => b = w.heap.size) w3) (b := w.heap.size) (.inl rfl) 0 _ _ _ _ _ _ _ _ _).below HBo.out (fun b hb => by omega) HBo.out.size
  by_cases c34 : ch = 34
  · subst c34
    have cP : ∀ wx, _ := fun wx => jref_Parse s (u : Int) wx hs
    have hpp : parP s.data.toList (u : Int) = parJ u (u + 1) (s.data.toList.drop (u + 1)) [] := by
      unfold parP
      rw [if_pos ⟨by omega, by rw [hsl]; exact huz, by rw [Int.toNat_natCast]; exact hch⟩, Int.toNat_natCast]
    obtain ⟨⟨kb, t, e⟩, hP⟩ : ∃ P, parJ u (u + 1) (s.data.toList.drop (u + 1)) [] = P := ⟨_, rfl⟩
    rw [hpp, hP] at cP
    simp only at cP
    have hH : headK (f + 1) u (s.data.toList.drop u) d = strK u (s.data.toList.drop u) := HHd.out.trans rfl
    unfold strK at hH
    rw [List.drop_drop, hP] at hH
    simp only at hH
    by_cases he : e = 0
    case neg =>
      rw [if_pos he] at hH
      have HXx := Lib.hid (fun w' => HVv.out w' (errV t e) (by rw [hH]; exact ⟨rfl, he⟩))
      have he1 : (e != 0) = true := by simpa using he
      have he2 : (e == 0) = false := by simpa using he
      clear hH hP hpp hch he HHd HVv cW hsl hune
      go_enter Tryz.func23, Tryz.ntmps23
      go_wp2_with fail
      refine (cS _).mono ?_
      rintro en w3 ⟨rfl, rfl⟩
      generalize (w.alloc (.cells #[.int .i64 0, .bool false, .int .i64 0, .string ⟨#[]⟩, .slice none 0 0, .slice none 0 0, .int .i64 0, .int .i64 0, .int .i64 0] 54)) = W at *
      go_wp2_with fail
      refine (cP _).mono ?_
      rintro en w3 ⟨rfl, b3⟩
      obtain ⟨⟨r0, r1, r2, r3, r4, r5, r6, r7, r8⟩, k0, k1, k2, k3, k4, k5, k6, k7, k8⟩ := (hB.more b3).nine
      have HBo := Lib.hid (hbw.trans (b3.mono hbw.size))
      clear b3 hB hbw
      go_wp2
      refine bodyPost_ret (v := errV t e) (by simp [results, Tryz.results23, go_sem, errV, jset_same, r0, r1, r2, r3, r4, r5, r6, r7, r8]) rfl ⟨⟨_, rfl, HXx.out _⟩, ?_⟩
      exact (jset9 (Pj.refl (fun b => b = w.heap.size) w3) (b := w.heap.size) (.inl rfl) 0 _ _ _ _ _ _ _ _ _).below HBo.out (fun b hb => by omega) HBo.out.size
    subst he
    rw [if_neg (by simp)] at hH
    have hbd := parJ_end u _ (s.data.toList.drop (u + 1)) (u + 1) [] (Nat.le_refl _) (by rw [hP])
    rw [hP, List.length_drop, hsl] at hbd
    simp only at hbd
    have HXx := Lib.hid (fun w' => HVv.out w' (resV 3 false 0 (ofBytes kb) none 0 0 none 0 0 u t 0) (by rw [hH]; exact resIs_leaf (by omega) rfl (by omega)))
    clear hH hP hpp hch HHd HVv cW hsl hune hbd
    go_enter Tryz.func23, Tryz.ntmps23
    go_wp2_with fail
    refine (cS _).mono ?_
    rintro en w3 ⟨rfl, rfl⟩
    generalize (w.alloc (.cells #[.int .i64 0, .bool false, .int .i64 0, .string ⟨#[]⟩, .slice none 0 0, .slice none 0 0, .int .i64 0, .int .i64 0, .int .i64 0] 54)) = W at *
    go_wp2_with fail
    refine (cP _).mono ?_
    rintro en w3 ⟨rfl, b3⟩
    obtain ⟨⟨r0, r1, r2, r3, r4, r5, r6, r7, r8⟩, k0, k1, k2, k3, k4, k5, k6, k7, k8⟩ := (hB.more b3).nine
    have HBo := Lib.hid (hbw.trans (b3.mono hbw.size))
    clear b3 hB hbw
    go_wp2
    refine bodyPost_ret (v := resV 3 false 0 (ofBytes kb) none 0 0 none 0 0 u t 0) (by simp [results, Tryz.results23, go_sem, resV, jset_same, r0, r1, r2, r3, r4, r5, r6, r7, r8]) rfl ⟨⟨_, rfl, HXx.out _⟩, ?_⟩
    exact (jset9 (Pj.refl (fun b => b = w.heap.size) w3) (b := w.heap.size) (.inl rfl) 0 _ _ _ _ _ _ _ _ _).below HBo.out (fun b hb => by omega) HBo.out.size
  obtain ⟨W, hW0⟩ : ∃ W, w.alloc (.cells #[.int .i64 0, .bool false, .int .i64 0, .string ⟨#[]⟩, .slice none 0 0, .slice none 0 0, .int .i64 0, .int .i64 0, .int .i64 0] 54) = W := ⟨_, rfl⟩
  rw [hW0] at hB hbw
  by_cases cb : ch = 91 ∨ ch = 123
  · have hd91 : s.data.toList.getD u 0 = 91 ∨ s.data.toList.getD u 0 = 123 := by rw [hch]; exact cb
    by_cases hd100 : 100 < d
    · have hH : headK (f + 1) u (s.data.toList.drop u) d = .err u 9 := by rw [HHd.out, if_neg c110, if_neg c116, if_neg c102, if_neg c34, if_pos cb, if_pos hd100]
      have HXx := Lib.hid (fun w' => HVv.out w' (errV u 9) (by rw [hH]; exact ⟨rfl, by decide⟩))
      have hdz : (100 : Int) < (d : Int) := by omega
      clear hH HHd HVv cW hsl hune hd91 c110 c116 c102 c34 hch
      rcases cb with rfl | rfl
      all_goals
        go_enter Tryz.func23, Tryz.ntmps23
        go_wp2_with fail
        refine (cS _).mono ?_
        rintro en w3 ⟨rfl, rfl⟩
        obtain ⟨⟨r0, r1, r2, r3, r4, r5, r6, r7, r8⟩, k0, k1, k2, k3, k4, k5, k6, k7, k8⟩ := hB.nine
        have HBo := Lib.hid hbw
        clear hB hbw
        go_wp2
        refine bodyPost_ret (v := errV u 9) (by simp [results, Tryz.results23, go_sem, errV, jset_same, r0, r1, r2, r3, r4, r5, r6, r7, r8]) rfl ⟨⟨_, rfl, HXx.out _⟩, ?_⟩
        exact (jset9 (Pj.refl (fun b => b = w.heap.size) W) (b := w.heap.size) (.inl rfl) 0 _ _ _ _ _ _ _ _ _).below HBo.out (fun b hb => by omega) HBo.out.size
    · have cL := HLl s u d W hs hul (by omega) (by omega) hd91
      have hdz : ¬ (100 : Int) < (d : Int) := by omega
      obtain ⟨R, hR⟩ : ∃ R, headK (f + 1) u (s.data.toList.drop u) d = R := ⟨_, rfl⟩
      rw [hR] at cL HVv
      have hWz : W.heap.size = w.heap.size + 1 := by rw [← hW0]; simp
      clear hR HHd cW hsl hune hd91 c110 c116 c102 c34 hch
      rcases R with ⟨a, e⟩ | ⟨v, k⟩
      · rcases cb with rfl | rfl
        all_goals
          go_enter Tryz.func23, Tryz.ntmps23
          go_wp2_with fail
          refine (cS _).mono ?_
          rintro en w3 ⟨rfl, rfl⟩
          go_wp2_with fail
          refine cL.mono ?_
          rintro en w3 ⟨⟨x, rfl, rfl, he⟩, b3⟩
          have HXx := Lib.hid (fun w' => HVv.out w' (errV a e) ⟨rfl, he⟩)
          unfold errV
          obtain ⟨⟨r0, r1, r2, r3, r4, r5, r6, r7, r8⟩, k0, k1, k2, k3, k4, k5, k6, k7, k8⟩ := (hB.more b3).nine
          have HBo := Lib.hid (hbw.trans (b3.mono hbw.size))
          clear b3 hB hbw
          go_wp2
          refine bodyPost_ret (v := errV a e) (by simp [results, Tryz.results23, go_sem, errV, jset_same, r0, r1, r2, r3, r4, r5, r6, r7, r8]) rfl ⟨⟨_, rfl, HXx.out _⟩, ?_⟩
          exact (jset9 (Pj.refl (fun b => b = w.heap.size) w3) (b := w.heap.size) (.inl rfl) 0 _ _ _ _ _ _ _ _ _).below HBo.out (fun b hb => by omega) HBo.out.size
      · rcases cb with rfl | rfl
        all_goals
          go_enter Tryz.func23, Tryz.ntmps23
          go_wp2_with fail
          refine (cS _).mono ?_
          rintro en w3 ⟨rfl, rfl⟩
          go_wp2_with fail
          refine cL.mono ?_
          rintro en w3 ⟨⟨x, rfl, hx⟩, b3⟩
          have HXx := Lib.hid (fun w' (hg : Gos w3 (low W.heap.size) w' (low w.heap.size)) => HVv.out w' x (hx.go hg))
          obtain ⟨h1, p, c, q, d', rfl, -, -⟩ := hx
          rw [hWz] at HXx
          generalize v.kind = m0 at *
          generalize v.b = m1 at *
          generalize v.n = m2 at *
          generalize v.s = m3 at *
          generalize v.items.length = m4 at *
          generalize v.mems.length = m5 at *
          generalize v.at' = m6 at *
          unfold resV
          obtain ⟨⟨r0, r1, r2, r3, r4, r5, r6, r7, r8⟩, k0, k1, k2, k3, k4, k5, k6, k7, k8⟩ := (hB.more b3).nine
          have HBo := Lib.hid (hbw.trans (b3.mono hbw.size))
          clear b3 hB hbw
          go_wp2
          have hq := jset9 (Pj.refl (fun b => low (w.heap.size + 1) b = true) w3) (b := w.heap.size) (.inl (by simp [low])) 0 (.int .i64 m0) (.bool m1) (.int .i64 m2) (.string m3) (.slice p m4 c) (.slice q m5 d') (.int .i64 m6) (.int .i64 ((u + k : Nat) : Int)) (.int .i64 0)
          refine bodyPost_ret (v := resV m0 m1 m2 m3 p m4 c q m5 d' m6 ((u + k : Nat) : Int) 0) (by simp [results, Tryz.results23, go_sem, resV, jset_same, r0, r1, r2, r3, r4, r5, r6, r7, r8]) rfl ⟨⟨_, rfl, HXx.out _ ((Gos.part hq).trans (Gos.low (Nat.le_succ _)) hq.size)⟩, ?_⟩
          exact (jset9 (Pj.refl (fun b => b = w.heap.size) w3) (b := w.heap.size) (.inl rfl) 0 _ _ _ _ _ _ _ _ _).below HBo.out (fun b hb => by omega) HBo.out.size
  have e110 := u8_at ch 110
  have e116 := u8_at ch 116
  have e102 := u8_at ch 102
  have e34 := u8_at ch 34
  have e91 := u8_at ch 91
  have e123 := u8_at ch 123
  have e45 := u8_at ch 45
  have g110 : ((ch.toNat : Int) == 110) = false := beq_eq_false_iff_ne.2 fun e => c110 (e110.2 e)
  have g116 : ((ch.toNat : Int) == 116) = false := beq_eq_false_iff_ne.2 fun e => c116 (e116.2 e)
  have g102 : ((ch.toNat : Int) == 102) = false := beq_eq_false_iff_ne.2 fun e => c102 (e102.2 e)
  have g34 : ((ch.toNat : Int) == 34) = false := beq_eq_false_iff_ne.2 fun e => c34 (e34.2 e)
  have g91 : ((ch.toNat : Int) == 91) = false := beq_eq_false_iff_ne.2 fun e => cb (.inl (e91.2 e))
  have g123 : ((ch.toNat : Int) == 123) = false := beq_eq_false_iff_ne.2 fun e => cb (.inr (e123.2 e))
  have e45' : ch = 45 ↔ (ch.toNat : Int) = 45 := e45
  have hch8 := ch.toNat_lt
  clear e110 e116 e102 e34 e91 e123 e45
  by_cases cn : ch = 45 ∨ (48 ≤ ch.toNat ∧ ch.toNat ≤ 57)
  · obtain ⟨z, hz⟩ : ∃ z : Int, (ch.toNat : Int) = z := ⟨_, rfl⟩
    have hzz : z = 45 ∨ ((z != 45) = true ∧ 48 ≤ z ∧ z ≤ 57) := by
      rcases cn with h | h
      · exact .inl (by rw [← hz]; exact e45'.1 h)
      · exact .inr ⟨by simp; omega, by omega, by omega⟩
    rw [hz] at hix g110 g116 g102 g34 g91 g123
    clear hz e45' hch8
    rcases hzz with rfl | ⟨hz1, hz2, hz3⟩
    · clear g110 g116 g102 g34 g91 g123
      go_enter Tryz.func23, Tryz.ntmps23
      go_wp2_with fail
      refine (cS _).mono ?_
      rintro en w3 ⟨rfl, rfl⟩
      go_wp2
      go_loop [10] (fun v => ∃ k : Nat, u ≤ k ∧ k ≤ s.size ∧ v = .int .i64 k ∧ (s.data.toList.drop u).takeWhile numP = (s.data.toList.drop u).take (k - u) ++ (s.data.toList.drop k).takeWhile numP) (fun v => s.size - (RowKit.intOf v).toNat)
      case atStart => exact ⟨u, Nat.le_refl _, by omega, rfl, by rw [Nat.sub_self, List.take_zero, List.nil_append]⟩
      case round =>
        obtain ⟨k, huk0, hks0, rfl, hrel⟩ := hrel
        by_cases hkl : k < s.size
        · have hkl2 : k < s.data.toList.length := by omega
          have hixk := jix s .i64 (k : Int) k rfl hkl
          have hg : s.data.toList.getD k 0 = s.data.toList[k] := by rw [List.getD_eq_getElem?_getD, List.getElem?_eq_getElem hkl2]; rfl
          have hdk : s.data.toList.drop k = s.data.toList.getD k 0 :: s.data.toList.drop (k + 1) := by rw [hg]; exact List.drop_eq_getElem_cons hkl2
          obtain ⟨y, hy⟩ : ∃ y, s.data.toList.getD k 0 = y := ⟨_, rfl⟩
          rw [hy] at hixk hdk
          have cM : ∀ wx, _ := fun wx => jref_numeric (y.toNat : Int) wx
          have hkz : (k : Int) < (s.size : Int) := by omega
          rcases hn : numP y with _ | _
          · rw [show jnumB (y.toNat : Int) = false from hn] at cM
            have hT : (s.data.toList.drop u).takeWhile numP = (s.data.toList.drop u).take (k - u) := by rw [hrel, hdk, List.takeWhile_cons, hn]; simp
            clear hrel hdk hy hg hkl2 hn
            go_wp2_with fail
            refine (cM _).mono ?_
            rintro en w4 ⟨rfl, rfl⟩
            have hH : headK (f + 1) u (s.data.toList.drop u) d = numK u (s.data.toList.drop u) := by rw [HHd.out, if_neg c110, if_neg c116, if_neg c102, if_neg c34, if_neg cb, if_pos cn]
            unfold numK at hH
            rw [hT] at hH
            have hTl : ((s.data.toList.drop u).take (k - u)).length = k - u := by rw [List.length_take, List.length_drop]; omega
            obtain ⟨T, hTT⟩ : ∃ T, (s.data.toList.drop u).take (k - u) = T := ⟨_, rfl⟩
            rw [hTT] at hH hTl
            have hsc : ∀ wx, _ := fun wx => slice_mid s (u : Int) (k : Int) (by omega) (by omega) (by omega) wx
            rw [Int.toNat_natCast, Int.toNat_natCast, kext, hTT] at hsc
            have hTs : (ofBytes T).size = T.length := by
              have : (ofBytes T).data.toList.length = (ofBytes T).size := by simp
              rw [ofBytes_list] at this
              omega
            have cN : ∀ wx, _ := fun wx => jref_Number (ofBytes T) wx (by omega)
            rw [ofBytes_list] at cN
            have huk : (u : Int) ≤ (k : Int) := by omega
            have hks : (k : Int) ≤ (s.size : Int) := by omega
            obtain ⟨q, hq⟩ : ∃ q, ofBytes T = q := ⟨_, rfl⟩
            rw [hq] at hsc cN
            rcases hj : jnumL T with _ | n
            · rw [hj] at hH cN
              have HXx := Lib.hid (fun w' => HVv.out w' (errV u 15) (by rw [hH]; exact ⟨rfl, by decide⟩))
              clear hH hT hTl hTT hTs hj hq HHd HVv cW hsl hune c110 c116 c102 c34 hch cb cn
              go_wp2_with fail
              refine (cN _).mono ?_
              rintro en w4 ⟨⟨N, rfl, -⟩, rfl⟩
              obtain ⟨⟨r0, r1, r2, r3, r4, r5, r6, r7, r8⟩, k0, k1, k2, k3, k4, k5, k6, k7, k8⟩ := hB.nine
              have HBo := Lib.hid hbw
              clear hB hbw
              go_wp2
              refine bodyPost_ret (v := errV u 15) (by simp [results, Tryz.results23, go_sem, errV, jset_same, r0, r1, r2, r3, r4, r5, r6, r7, r8]) rfl ⟨⟨_, rfl, HXx.out _⟩, ?_⟩
              exact (jset9 (Pj.refl (fun b => b = w.heap.size) W) (b := w.heap.size) (.inl rfl) 0 _ _ _ _ _ _ _ _ _).below HBo.out (fun b hb => by omega) HBo.out.size
            · rw [hj] at hH cN
              have HXy := Lib.hid (fun w' (N : Int) (hN : N = n) => HVv.out w' (resV 2 false N ⟨#[]⟩ none 0 0 none 0 0 u k 0) (by rw [hH, hN]; exact resIs_leaf (by omega) rfl (by omega)))
              clear hH hT hTl hTT hTs hj hq HHd HVv cW hsl hune c110 c116 c102 c34 hch cb cn
              go_wp2_with fail
              refine (cN _).mono ?_
              rintro en w4 ⟨⟨N, rfl, hN⟩, rfl⟩
              have HXx := Lib.hid (fun w' => HXy.out w' N (hN n rfl))
              clear HXy hN
              obtain ⟨⟨r0, r1, r2, r3, r4, r5, r6, r7, r8⟩, k0, k1, k2, k3, k4, k5, k6, k7, k8⟩ := hB.nine
              have HBo := Lib.hid hbw
              clear hB hbw
              go_wp2
              refine bodyPost_ret (v := resV 2 false N ⟨#[]⟩ none 0 0 none 0 0 u k 0) (by simp [results, Tryz.results23, go_sem, resV, jset_same, r0, r1, r2, r3, r4, r5, r6, r7, r8]) rfl ⟨⟨_, rfl, HXx.out _⟩, ?_⟩
              exact (jset9 (Pj.refl (fun b => b = w.heap.size) W) (b := w.heap.size) (.inl rfl) 0 _ _ _ _ _ _ _ _ _).below HBo.out (fun b hb => by omega) HBo.out.size
          · rw [show jnumB (y.toNat : Int) = true from hn] at cM
            have hT : (s.data.toList.drop u).takeWhile numP = (s.data.toList.drop u).take (k + 1 - u) ++ (s.data.toList.drop (k + 1)).takeWhile numP := by
              have hk1 : (s.data.toList.drop u).take (k + 1 - u) = (s.data.toList.drop u).take (k - u) ++ [y] := by
                rw [show k + 1 - u = (k - u) + 1 by omega, List.take_add_one, List.getElem?_drop, show u + (k - u) = k by omega, List.getElem?_eq_getElem hkl2, ← hg, hy]
                rfl
              rw [hrel, hdk, List.takeWhile_cons, hn, hk1]
              simp
            have HTt := Lib.hid hT
            clear hrel hdk hy hg hkl2 hn hT
            go_wp2_with fail
            refine (cM _).mono ?_
            rintro en w4 ⟨rfl, rfl⟩
            go_wp2
            go_round
            case rel => exact ⟨k + 1, by omega, by omega, by go_num, HTt.out⟩
            case measure => simp [RowKit.intOf]; omega
        · have hT : (s.data.toList.drop u).takeWhile numP = (s.data.toList.drop u).take (k - u) := by rw [hrel, show s.data.toList.drop k = [] from List.drop_eq_nil_of_le (by omega), List.takeWhile_nil, List.append_nil]
          have hkz : ¬ (k : Int) < (s.size : Int) := by omega
          clear hrel
          have hH : headK (f + 1) u (s.data.toList.drop u) d = numK u (s.data.toList.drop u) := by rw [HHd.out, if_neg c110, if_neg c116, if_neg c102, if_neg c34, if_neg cb, if_pos cn]
          unfold numK at hH
          rw [hT] at hH
          have hTl : ((s.data.toList.drop u).take (k - u)).length = k - u := by rw [List.length_take, List.length_drop]; omega
          obtain ⟨T, hTT⟩ : ∃ T, (s.data.toList.drop u).take (k - u) = T := ⟨_, rfl⟩
          rw [hTT] at hH hTl
          have hsc : ∀ wx, _ := fun wx => slice_mid s (u : Int) (k : Int) (by omega) (by omega) (by omega) wx
          rw [Int.toNat_natCast, Int.toNat_natCast, kext, hTT] at hsc
          have hTs : (ofBytes T).size = T.length := by
            have : (ofBytes T).data.toList.length = (ofBytes T).size := by simp
            rw [ofBytes_list] at this
            omega
          have cN : ∀ wx, _ := fun wx => jref_Number (ofBytes T) wx (by omega)
          rw [ofBytes_list] at cN
          have huk : (u : Int) ≤ (k : Int) := by omega
          have hks : (k : Int) ≤ (s.size : Int) := by omega
          obtain ⟨q, hq⟩ : ∃ q, ofBytes T = q := ⟨_, rfl⟩
          rw [hq] at hsc cN
          rcases hj : jnumL T with _ | n
          · rw [hj] at hH cN
            have HXx := Lib.hid (fun w' => HVv.out w' (errV u 15) (by rw [hH]; exact ⟨rfl, by decide⟩))
            clear hH hT hTl hTT hTs hj hq HHd HVv cW hsl hune c110 c116 c102 c34 hch cb cn
            go_wp2_with fail
            refine (cN _).mono ?_
            rintro en w4 ⟨⟨N, rfl, -⟩, rfl⟩
            obtain ⟨⟨r0, r1, r2, r3, r4, r5, r6, r7, r8⟩, k0, k1, k2, k3, k4, k5, k6, k7, k8⟩ := hB.nine
            have HBo := Lib.hid hbw
            clear hB hbw
            go_wp2
            refine bodyPost_ret (v := errV u 15) (by simp [results, Tryz.results23, go_sem, errV, jset_same, r0, r1, r2, r3, r4, r5, r6, r7, r8]) rfl ⟨⟨_, rfl, HXx.out _⟩, ?_⟩
            exact (jset9 (Pj.refl (fun b => b = w.heap.size) W) (b := w.heap.size) (.inl rfl) 0 _ _ _ _ _ _ _ _ _).below HBo.out (fun b hb => by omega) HBo.out.size
          · rw [hj] at hH cN
            have HXy := Lib.hid (fun w' (N : Int) (hN : N = n) => HVv.out w' (resV 2 false N ⟨#[]⟩ none 0 0 none 0 0 u k 0) (by rw [hH, hN]; exact resIs_leaf (by omega) rfl (by omega)))
            clear hH hT hTl hTT hTs hj hq HHd HVv cW hsl hune c110 c116 c102 c34 hch cb cn
            go_wp2_with fail
            refine (cN _).mono ?_
            rintro en w4 ⟨⟨N, rfl, hN⟩, rfl⟩
            have HXx := Lib.hid (fun w' => HXy.out w' N (hN n rfl))
            clear HXy hN
            obtain ⟨⟨r0, r1, r2, r3, r4, r5, r6, r7, r8⟩, k0, k1, k2, k3, k4, k5, k6, k7, k8⟩ := hB.nine
            have HBo := Lib.hid hbw
            clear hB hbw
            go_wp2
            refine bodyPost_ret (v := resV 2 false N ⟨#[]⟩ none 0 0 none 0 0 u k 0) (by simp [results, Tryz.results23, go_sem, resV, jset_same, r0, r1, r2, r3, r4, r5, r6, r7, r8]) rfl ⟨⟨_, rfl, HXx.out _⟩, ?_⟩
            exact (jset9 (Pj.refl (fun b => b = w.heap.size) W) (b := w.heap.size) (.inl rfl) 0 _ _ _ _ _ _ _ _ _).below HBo.out (fun b hb => by omega) HBo.out.size
    · have hz4 : ¬ z < 48 := by omega
      have hz5 : ¬ 57 < z := by omega
      go_enter Tryz.func23, Tryz.ntmps23
      go_wp2_with fail
      refine (cS _).mono ?_
      rintro en w3 ⟨rfl, rfl⟩
      go_wp2
      go_loop [10] (fun v => ∃ k : Nat, u ≤ k ∧ k ≤ s.size ∧ v = .int .i64 k ∧ (s.data.toList.drop u).takeWhile numP = (s.data.toList.drop u).take (k - u) ++ (s.data.toList.drop k).takeWhile numP) (fun v => s.size - (RowKit.intOf v).toNat)
      case atStart => exact ⟨u, Nat.le_refl _, by omega, rfl, by rw [Nat.sub_self, List.take_zero, List.nil_append]⟩
      case round =>
        obtain ⟨k, huk0, hks0, rfl, hrel⟩ := hrel
        by_cases hkl : k < s.size
        · have hkl2 : k < s.data.toList.length := by omega
          have hixk := jix s .i64 (k : Int) k rfl hkl
          have hg : s.data.toList.getD k 0 = s.data.toList[k] := by rw [List.getD_eq_getElem?_getD, List.getElem?_eq_getElem hkl2]; rfl
          have hdk : s.data.toList.drop k = s.data.toList.getD k 0 :: s.data.toList.drop (k + 1) := by rw [hg]; exact List.drop_eq_getElem_cons hkl2
          obtain ⟨y, hy⟩ : ∃ y, s.data.toList.getD k 0 = y := ⟨_, rfl⟩
          rw [hy] at hixk hdk
          have cM : ∀ wx, _ := fun wx => jref_numeric (y.toNat : Int) wx
          have hkz : (k : Int) < (s.size : Int) := by omega
          rcases hn : numP y with _ | _
          · rw [show jnumB (y.toNat : Int) = false from hn] at cM
            have hT : (s.data.toList.drop u).takeWhile numP = (s.data.toList.drop u).take (k - u) := by rw [hrel, hdk, List.takeWhile_cons, hn]; simp
            clear hrel hdk hy hg hkl2 hn
            go_wp2_with fail
            refine (cM _).mono ?_
            rintro en w4 ⟨rfl, rfl⟩
            have hH : headK (f + 1) u (s.data.toList.drop u) d = numK u (s.data.toList.drop u) := by rw [HHd.out, if_neg c110, if_neg c116, if_neg c102, if_neg c34, if_neg cb, if_pos cn]
            unfold numK at hH
            rw [hT] at hH
            have hTl : ((s.data.toList.drop u).take (k - u)).length = k - u := by rw [List.length_take, List.length_drop]; omega
            obtain ⟨T, hTT⟩ : ∃ T, (s.data.toList.drop u).take (k - u) = T := ⟨_, rfl⟩
            rw [hTT] at hH hTl
            have hsc : ∀ wx, _ := fun wx => slice_mid s (u : Int) (k : Int) (by omega) (by omega) (by omega) wx
            rw [Int.toNat_natCast, Int.toNat_natCast, kext, hTT] at hsc
            have hTs : (ofBytes T).size = T.length := by
              have : (ofBytes T).data.toList.length = (ofBytes T).size := by simp
              rw [ofBytes_list] at this
              omega
            have cN : ∀ wx, _ := fun wx => jref_Number (ofBytes T) wx (by omega)
            rw [ofBytes_list] at cN
            have huk : (u : Int) ≤ (k : Int) := by omega
            have hks : (k : Int) ≤ (s.size : Int) := by omega
            obtain ⟨q, hq⟩ : ∃ q, ofBytes T = q := ⟨_, rfl⟩
            rw [hq] at hsc cN
            rcases hj : jnumL T with _ | n
            · rw [hj] at hH cN
              have HXx := Lib.hid (fun w' => HVv.out w' (errV u 15) (by rw [hH]; exact ⟨rfl, by decide⟩))
              clear hH hT hTl hTT hTs hj hq HHd HVv cW hsl hune c110 c116 c102 c34 hch cb cn
              go_wp2_with fail
              refine (cN _).mono ?_
              rintro en w4 ⟨⟨N, rfl, -⟩, rfl⟩
              obtain ⟨⟨r0, r1, r2, r3, r4, r5, r6, r7, r8⟩, k0, k1, k2, k3, k4, k5, k6, k7, k8⟩ := hB.nine
              have HBo := Lib.hid hbw
              clear hB hbw
              go_wp2
              refine bodyPost_ret (v := errV u 15) (by simp [results, Tryz.results23, go_sem, errV, jset_same, r0, r1, r2, r3, r4, r5, r6, r7, r8]) rfl ⟨⟨_, rfl, HXx.out _⟩, ?_⟩
              exact (jset9 (Pj.refl (fun b => b = w.heap.size) W) (b := w.heap.size) (.inl rfl) 0 _ _ _ _ _ _ _ _ _).below HBo.out (fun b hb => by omega) HBo.out.size
            · rw [hj] at hH cN
              have HXy := Lib.hid (fun w' (N : Int) (hN : N = n) => HVv.out w' (resV 2 false N ⟨#[]⟩ none 0 0 none 0 0 u k 0) (by rw [hH, hN]; exact resIs_leaf (by omega) rfl (by omega)))
              clear hH hT hTl hTT hTs hj hq HHd HVv cW hsl hune c110 c116 c102 c34 hch cb cn
              go_wp2_with fail
              refine (cN _).mono ?_
              rintro en w4 ⟨⟨N, rfl, hN⟩, rfl⟩
              have HXx := Lib.hid (fun w' => HXy.out w' N (hN n rfl))
              clear HXy hN
              obtain ⟨⟨r0, r1, r2, r3, r4, r5, r6, r7, r8⟩, k0, k1, k2, k3, k4, k5, k6, k7, k8⟩ := hB.nine
              have HBo := Lib.hid hbw
              clear hB hbw
              go_wp2
              refine bodyPost_ret (v := resV 2 false N ⟨#[]⟩ none 0 0 none 0 0 u k 0) (by simp [results, Tryz.results23, go_sem, resV, jset_same, r0, r1, r2, r3, r4, r5, r6, r7, r8]) rfl ⟨⟨_, rfl, HXx.out _⟩, ?_⟩
              exact (jset9 (Pj.refl (fun b => b = w.heap.size) W) (b := w.heap.size) (.inl rfl) 0 _ _ _ _ _ _ _ _ _).below HBo.out (fun b hb => by omega) HBo.out.size
          · rw [show jnumB (y.toNat : Int) = true from hn] at cM
            have hT : (s.data.toList.drop u).takeWhile numP = (s.data.toList.drop u).take (k + 1 - u) ++ (s.data.toList.drop (k + 1)).takeWhile numP := by
              have hk1 : (s.data.toList.drop u).take (k + 1 - u) = (s.data.toList.drop u).take (k - u) ++ [y] := by
                rw [show k + 1 - u = (k - u) + 1 by omega, List.take_add_one, List.getElem?_drop, show u + (k - u) = k by omega, List.getElem?_eq_getElem hkl2, ← hg, hy]
                rfl
              rw [hrel, hdk, List.takeWhile_cons, hn, hk1]
              simp
            have HTt := Lib.hid hT
            clear hrel hdk hy hg hkl2 hn hT
            go_wp2_with fail
            refine (cM _).mono ?_
            rintro en w4 ⟨rfl, rfl⟩
            go_wp2
            go_round
            case rel => exact ⟨k + 1, by omega, by omega, by go_num, HTt.out⟩
            case measure => simp [RowKit.intOf]; omega
        · have hT : (s.data.toList.drop u).takeWhile numP = (s.data.toList.drop u).take (k - u) := by rw [hrel, show s.data.toList.drop k = [] from List.drop_eq_nil_of_le (by omega), List.takeWhile_nil, List.append_nil]
          have hkz : ¬ (k : Int) < (s.size : Int) := by omega
          clear hrel
          have hH : headK (f + 1) u (s.data.toList.drop u) d = numK u (s.data.toList.drop u) := by rw [HHd.out, if_neg c110, if_neg c116, if_neg c102, if_neg c34, if_neg cb, if_pos cn]
          unfold numK at hH
          rw [hT] at hH
          have hTl : ((s.data.toList.drop u).take (k - u)).length = k - u := by rw [List.length_take, List.length_drop]; omega
          obtain ⟨T, hTT⟩ : ∃ T, (s.data.toList.drop u).take (k - u) = T := ⟨_, rfl⟩
          rw [hTT] at hH hTl
          have hsc : ∀ wx, _ := fun wx => slice_mid s (u : Int) (k : Int) (by omega) (by omega) (by omega) wx
          rw [Int.toNat_natCast, Int.toNat_natCast, kext, hTT] at hsc
          have hTs : (ofBytes T).size = T.length := by
            have : (ofBytes T).data.toList.length = (ofBytes T).size := by simp
            rw [ofBytes_list] at this
            omega
          have cN : ∀ wx, _ := fun wx => jref_Number (ofBytes T) wx (by omega)
          rw [ofBytes_list] at cN
          have huk : (u : Int) ≤ (k : Int) := by omega
          have hks : (k : Int) ≤ (s.size : Int) := by omega
          obtain ⟨q, hq⟩ : ∃ q, ofBytes T = q := ⟨_, rfl⟩
          rw [hq] at hsc cN
          rcases hj : jnumL T with _ | n
          · rw [hj] at hH cN
            have HXx := Lib.hid (fun w' => HVv.out w' (errV u 15) (by rw [hH]; exact ⟨rfl, by decide⟩))
            clear hH hT hTl hTT hTs hj hq HHd HVv cW hsl hune c110 c116 c102 c34 hch cb cn
            go_wp2_with fail
            refine (cN _).mono ?_
            rintro en w4 ⟨⟨N, rfl, -⟩, rfl⟩
            obtain ⟨⟨r0, r1, r2, r3, r4, r5, r6, r7, r8⟩, k0, k1, k2, k3, k4, k5, k6, k7, k8⟩ := hB.nine
            have HBo := Lib.hid hbw
            clear hB hbw
            go_wp2
            refine bodyPost_ret (v := errV u 15) (by simp [results, Tryz.results23, go_sem, errV, jset_same, r0, r1, r2, r3, r4, r5, r6, r7, r8]) rfl ⟨⟨_, rfl, HXx.out _⟩, ?_⟩
            exact (jset9 (Pj.refl (fun b => b = w.heap.size) W) (b := w.heap.size) (.inl rfl) 0 _ _ _ _ _ _ _ _ _).below HBo.out (fun b hb => by omega) HBo.out.size
          · rw [hj] at hH cN
            have HXy := Lib.hid (fun w' (N : Int) (hN : N = n) => HVv.out w' (resV 2 false N ⟨#[]⟩ none 0 0 none 0 0 u k 0) (by rw [hH, hN]; exact resIs_leaf (by omega) rfl (by omega)))
            clear hH hT hTl hTT hTs hj hq HHd HVv cW hsl hune c110 c116 c102 c34 hch cb cn
            go_wp2_with fail
            refine (cN _).mono ?_
            rintro en w4 ⟨⟨N, rfl, hN⟩, rfl⟩
            have HXx := Lib.hid (fun w' => HXy.out w' N (hN n rfl))
            clear HXy hN
            obtain ⟨⟨r0, r1, r2, r3, r4, r5, r6, r7, r8⟩, k0, k1, k2, k3, k4, k5, k6, k7, k8⟩ := hB.nine
            have HBo := Lib.hid hbw
            clear hB hbw
            go_wp2
            refine bodyPost_ret (v := resV 2 false N ⟨#[]⟩ none 0 0 none 0 0 u k 0) (by simp [results, Tryz.results23, go_sem, resV, jset_same, r0, r1, r2, r3, r4, r5, r6, r7, r8]) rfl ⟨⟨_, rfl, HXx.out _⟩, ?_⟩
            exact (jset9 (Pj.refl (fun b => b = w.heap.size) W) (b := w.heap.size) (.inl rfl) 0 _ _ _ _ _ _ _ _ _).below HBo.out (fun b hb => by omega) HBo.out.size
  · have hH : headK (f + 1) u (s.data.toList.drop u) d = .err u 7 := by rw [HHd.out, if_neg c110, if_neg c116, if_neg c102, if_neg c34, if_neg cb, if_neg cn]
    rw [show wrongE s.size u = ((u : Int), 7) by unfold wrongE; rw [if_neg hge]] at cW
    simp only at cW
    have HXx := Lib.hid (fun w' => HVv.out w' (errV u 7) (by rw [hH]; exact ⟨rfl, by decide⟩))
    obtain ⟨z, hz⟩ : ∃ z : Int, (ch.toNat : Int) = z := ⟨_, rfl⟩
    have hz1 : (z != 45) = true := by
      have : ¬ z = 45 := fun e => cn (.inl (e45'.2 (by rw [hz]; exact e)))
      simpa using this
    have hzz : z < 48 ∨ (¬ z < 48 ∧ 57 < z) := by omega
    rw [hz] at hix g110 g116 g102 g34 g91 g123
    unfold errV at cW
    clear hH HHd HVv hsl hune c110 c116 c102 c34 hch cb cn hz e45' hch8
    rcases hzz with hz2 | ⟨hz2, hz3⟩
    all_goals
      go_enter Tryz.func23, Tryz.ntmps23
      go_wp2_with fail
      refine (cS _).mono ?_
      rintro en w3 ⟨rfl, rfl⟩
      go_wp2_with fail
      refine (cW _).mono ?_
      rintro en w3 ⟨rfl, b3⟩
      obtain ⟨⟨r0, r1, r2, r3, r4, r5, r6, r7, r8⟩, k0, k1, k2, k3, k4, k5, k6, k7, k8⟩ := (hB.more b3).nine
      have HBo := Lib.hid (hbw.trans (b3.mono hbw.size))
      clear b3 hB hbw
      go_wp2
      refine bodyPost_ret (v := errV u 7) (by simp [results, Tryz.results23, go_sem, errV, jset_same, r0, r1, r2, r3, r4, r5, r6, r7, r8]) rfl ⟨⟨_, rfl, HXx.out _⟩, ?_⟩
      exact (jset9 (Pj.refl (fun b => b = w.heap.size) w3) (b := w.heap.size) (.inl rfl) 0 _ _ _ _ _ _ _ _ _).below HBo.out (fun b hb => by omega) HBo.out.size
end Go.Proofs.YtkkiklaoljdhhaaGreatDoor
end
