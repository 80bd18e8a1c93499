/- The reference of layer 4: Find: the place of a name of three letters in a list. -/
import Derived.Test.YtdbpkggjnmapiaaDoorRfcA
import Derived.Lib.Strings
namespace Go.Proofs.YtdbpkggjnmapiaaDoor
open Go.RowKit

/-- The place from a byte on, with a bound on the number of steps. -/
def findF (l n : List UInt8) : Nat → Nat → Int
  | 0, _ => -1
  | f + 1, i => if i + 3 ≤ l.length then (if ((l.drop i).take 3).map low8 == n.map low8 then ((i / 3 : Nat) : Int) else findF l n f (i + 3)) else -1
def findP (l n : List UInt8) : Int := findF l n (l.length + 1) 0
theorem rslice (s : ByteArray) (k : Nat) (h : k + 3 ≤ s.size) (w : World) : (Instr.slice 9 (.string s) (some (.int .i64 (k : Int))) (some (.int .i64 ((k : Int) + 3))) none).run Tryd.prog w = .ok (.string (s.extract k (k + 3))) w := by
  have := run_slice_string (P := Tryd.prog) (w := w) 9 s .i64 .i64 (k : Int) ((k : Int) + 3) Tryd.underlying9 (by omega) (by omega) (by omega)
  rw [this]
  rfl
theorem ext3 (s : ByteArray) (k : Nat) : (s.extract k (k + 3)).data.toList = (s.data.toList.drop k).take 3 := by
  rw [Lib.extract_data]; simp
theorem ob_eq (a b : List UInt8) : ((ofBytes a).toList == (ofBytes b).toList) = (a == b) := by
  rw [Lib.toList_data, Lib.toList_data, ofBytes_list, ofBytes_list]
theorem findF_bd (l n : List UInt8) : ∀ f i, -1 ≤ findF l n f i ∧ findF l n f i ≤ l.length
  | 0, _ => by rw [findF]; omega
  | f + 1, i => by
    rw [findF]
    split
    · split
      · omega
      · exact findF_bd l n f (i + 3)
    · omega

set_option maxRecDepth 100000 in
set_option maxHeartbeats 4000000 in
theorem rref_Find (s n : ByteArray) (w : World) (hs : s.size ≤ 70368744177664) (hn : n.size ≤ 70368744177664) :
    Calls Tryd.prog 35 #[.string s, .string n] w fun e w' => e = .returned (.int .i64 (findP s.data.toList n.data.toList)) ∧ Below w.heap.size w w' := by
  have hsl : s.data.toList.length = s.size := by simp
  have HSL := Lib.hid hsl
  clear hsl
  go_enter Tryd.func35, Tryd.ntmps35
  go_wp2
  go_loopw [5] (fun i wr => ∃ k f : Nat, k ≤ s.size + 3 ∧ i = .int .i64 k ∧ s.size < k + f ∧ findP s.data.toList n.data.toList = findF s.data.toList n.data.toList f k ∧ Below w.heap.size w wr) (fun i _ => s.size + 4 - (intOf i).toNat)
  case atStart => exact ⟨0, s.size + 1, by omega, rfl, by omega, by unfold findP; rw [HSL.out], Below.refl _ _⟩
  case round =>
    obtain ⟨k, f, hk, rfl, hkf, hfind, hbel⟩ := hrel
    have hz := hbel.size
    by_cases hlt : k + 3 ≤ s.size
    · obtain ⟨f, rfl⟩ : ∃ g, f = g + 1 := ⟨f - 1, by omega⟩
      rw [findF, if_pos (by rw [HSL.out]; exact hlt)] at hfind
      have hsl3 := rslice s k hlt
      have c1 : ∀ wx, _ := fun wx => rref_Lower (s.extract k (k + 3)) wx (by rw [ByteArray.size_extract]; omega)
      have c2 : ∀ wx, _ := fun wx => rref_Lower n wx hn
      rw [ext3] at c1
      have hq := ob_eq (((s.data.toList.drop k).take 3).map low8) (n.data.toList.map low8)
      generalize ofBytes (((s.data.toList.drop k).take 3).map low8) = a at *
      generalize ofBytes (n.data.toList.map low8) = b at *
      have hltz : (k : Int) + 3 ≤ (s.size : Int) := by omega
      rcases hb : (((s.data.toList.drop k).take 3).map low8 == n.data.toList.map low8) with _ | _
      · rw [hb] at hfind hq
        have HF := Lib.hid hfind
        clear hb hfind
        go_wp2_with fail
        refine (c1 _).mono ?_
        rintro e w1 ⟨rfl, b1⟩
        go_wp2_with fail
        refine (c2 _).mono ?_
        rintro e w2 ⟨rfl, b2⟩
        have h1 := b1.size
        go_wp2
        refine ⟨⟨k + 3, f, by omega, by go_num, by omega, HF.out, (hbel.trans (b1.mono hz)).trans (b2.mono (by omega))⟩, by simp [intOf]; omega⟩
      · rw [hb] at hfind hq
        have HF := Lib.hid hfind
        clear hb hfind
        go_wp2_with fail
        refine (c1 _).mono ?_
        rintro e w1 ⟨rfl, b1⟩
        go_wp2_with fail
        refine (c2 _).mono ?_
        rintro e w2 ⟨rfl, b2⟩
        have h1 := b1.size
        go_wp2
        go_ret
        exact ⟨by rw [HF.out]; simp, (hbel.trans (b1.mono hz)).trans (b2.mono (by omega))⟩
    · have hfin : findF s.data.toList n.data.toList f k = -1 := by
        rcases f with _ | f
        · rfl
        · rw [findF, if_neg (by rw [HSL.out]; exact hlt)]
      have HF := Lib.hid (hfind.trans hfin)
      have hltz : ¬ (k : Int) + 3 ≤ (s.size : Int) := by omega
      clear hfind hfin
      go_wp2
      go_ret
      exact ⟨by rw [HF.out]; rfl, hbel⟩
end Go.Proofs.YtdbpkggjnmapiaaDoor
