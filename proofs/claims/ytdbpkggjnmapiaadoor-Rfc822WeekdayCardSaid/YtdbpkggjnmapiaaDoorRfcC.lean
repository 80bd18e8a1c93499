/- The reference of layer 4: Words: a string split at its spaces. -/
import Derived.Test.YtdbpkggjnmapiaaDoorRfcB
namespace Go.Proofs.YtdbpkggjnmapiaaDoor
open Go.RowKit

theorem rinfo_str : (Tryd.prog.info? 9).map (fun i => (i.zero, i.size, i.bytes)) = some (some (.string ⟨#[]⟩), 1, 16) := by kernel_rfl
/-- A list split at its spaces: what has been read of the first word, and the rest. -/
def wordsGo (cur : List UInt8) : List UInt8 → List (List UInt8)
  | [] => [cur]
  | c :: r => if c = 32 then cur :: wordsGo [] r else wordsGo (cur ++ [c]) r
def words (l : List UInt8) : List (List UInt8) := wordsGo [] l
def strs (ws : List (List UInt8)) : List Value := ws.map fun x => .string (ofBytes x)
theorem strs_length (ws : List (List UInt8)) : (strs ws).length = ws.length := by simp [strs]
theorem ext_from (s : ByteArray) (f k : Nat) : s.extract f k = ofBytes ((s.data.toList.drop f).take (k - f)) := by
  have h : (s.extract f k).data.toList = (s.data.toList.drop f).take (k - f) := Lib.extract_data s f k
  rw [← ofBytes_data (s.extract f k), h]
theorem rslice2 (s : ByteArray) (f k : Nat) (h1 : f ≤ k) (h2 : k ≤ s.size) (w : World) : (Instr.slice 9 (.string s) (some (.int .i64 (f : Int))) (some (.int .i64 (k : Int))) none).run Tryd.prog w = .ok (.string (ofBytes ((s.data.toList.drop f).take (k - f)))) w := by
  have := run_slice_string (P := Tryd.prog) (w := w) 9 s .i64 .i64 (f : Int) (k : Int) Tryd.underlying9 (by omega) (by omega) (by omega)
  rw [this, Int.toNat_natCast, Int.toNat_natCast, ext_from]
theorem cut_step (l : List UInt8) (f k : Nat) (h1 : f ≤ k) (h2 : k < l.length) : (l.drop f).take (k - f) ++ [l[k]] = (l.drop f).take (k + 1 - f) := by
  rw [show k + 1 - f = (k - f) + 1 by omega, List.take_add_one, List.getElem?_drop, show f + (k - f) = k by omega, List.getElem?_eq_getElem h2]
  simp

theorem own_push_str {w : World} {base : Nat} {e : TypeId} {v' : Value} {acc : List (List UInt8)} {x : List UInt8} (h : w.ownsRow base e 1 v' (acc.length + 1) (strs acc ++ [.string (ofBytes x)])) :
    ∃ A c, v' = .slice A (acc ++ [x]).length c ∧ w.ownsRow base e 1 (.slice A (acc ++ [x]).length c) (acc ++ [x]).length (strs (acc ++ [x])) := by
  obtain ⟨A, c, rfl⟩ := own_form h
  refine ⟨A, c, by simp, ?_⟩
  rw [show strs (acc ++ [x]) = strs acc ++ [.string (ofBytes x)] by simp [strs], List.length_append]
  exact h

set_option maxRecDepth 100000 in
set_option maxHeartbeats 4000000 in
theorem rref_Words (s : ByteArray) (w : World) (hs : s.size ≤ 1000000) :
    Calls Tryd.prog 34 #[.string s] w fun e w' => ∃ v, e = .returned v ∧ w'.ownsRow w.heap.size 9 1 v (words s.data.toList).length (strs (words s.data.toList)) ∧ Below w.heap.size w w' := by
  obtain ⟨i0, hi, hz0, hz1, hz2⟩ := info_parts rinfo_str
  have hsl : s.data.toList.length = s.size := by simp
  have HSL := Lib.hid hsl
  clear hsl
  go_enter Tryd.func34, Tryd.ntmps34
  go_wp2
  go_loopw [3, 4, 5] (fun v fr i wr => ∃ (k f : Nat) (acc : List (List UInt8)) (A : Option Addr) (c : Nat), k ≤ s.size + 1 ∧ i = .int .i64 k ∧ fr = .int .i64 f ∧ v = .slice A acc.length c ∧ wr.ownsRow w.heap.size 9 1 (.slice A acc.length c) acc.length (strs acc) ∧ acc.length ≤ k ∧ (k ≤ s.size → f ≤ k ∧ words s.data.toList = acc ++ wordsGo ((s.data.toList.drop f).take (k - f)) (s.data.toList.drop k)) ∧ (s.size < k → words s.data.toList = acc) ∧ Below w.heap.size w wr) (fun _ _ i _ => s.size + 1 - (intOf i).toNat)
  case atStart => exact ⟨0, 0, [], none, 0, by omega, rfl, rfl, rfl, World.ownsRow_nil _ _ _ _, by simp, fun _ => ⟨by omega, by simp [words]⟩, fun h => by omega, Below.refl _ _⟩
  case round =>
    obtain ⟨k, f, acc, A, c, hk, rfl, rfl, rfl, hown, hal, hin, hout, hbel⟩ := hrel
    have hz := hbel.size
    by_cases hle : k ≤ s.size
    · obtain ⟨hf, hw⟩ := hin hle
      clear hout hin
      have hs2 := rslice2 s f k hf hle
      by_cases hlt : k < s.size
      · have hlt' : k < s.data.toList.length := by rw [HSL.out]; exact hlt
        obtain ⟨x, hx⟩ : ∃ x, s[k]'hlt = x := ⟨_, rfl⟩
        have hxl : s.data.toList[k]'hlt' = x := by rw [← hx]; simp [ByteArray.getElem_eq_getElem_data]
        have hstep := cut_step s.data.toList f k hf hlt'
        rw [List.drop_eq_getElem_cons hlt', hxl, wordsGo] at hw
        rw [hxl] at hstep
        by_cases h32 : x = 32
        · rw [if_pos h32] at hw
          have hxi : (x.toNat : Int) = 32 := by rw [h32]; rfl
          have R : words s.data.toList = (acc ++ [(s.data.toList.drop f).take (k - f)]) ++ wordsGo ((s.data.toList.drop (k + 1)).take (k + 1 - (k + 1))) (s.data.toList.drop (k + 1)) := by
            rw [hw]; simp
          have HR := Lib.hid R
          have hkz : ¬ (k : Int) = (s.size : Int) := by omega
          clear hw hstep hxl h32 R
          generalize hwd : ofBytes ((s.data.toList.drop f).take (k - f)) = wd at *
          have HW := Lib.hid hwd
          clear hwd
          go_wp2_with (at_builtin; refine wpList_append_own _ rfl (.tmp 22) (.tmp 27) 51 rfl w.heap.size 9 i0 (.string ⟨#[]⟩) 1 16 Tryd.underlying51 hi hz0 hz1 hz2 rfl (by decide) (.slice A acc.length c) acc.length (strs acc) rfl (hown.alloc _) ⟨wr.heap.size, 0, none⟩ 1 1 [.string wd] rfl rfl (cell_one_new _ _ _) (by intro u hu; simp at hu; subst hu; rfl) (by unfold maxLen; omega) (by omega) (by simp; omega) ?_; intro v' w2 hown' hgr' _)
          rw [← HW.out] at hown'
          obtain ⟨A', c', hv', hown2⟩ := own_push_str hown'
          have hb2 : Below w.heap.size w w2 := (hbel.alloc hz _).grown hgr' (by simp; omega) (fun g hg => (hown.lt g hg).1)
          go_roundw
          case rel => exact ⟨k + 1, k + 1, _, A', c', by omega, by go_num, by go_num, hv', hown2, by simp; omega, fun _ => ⟨by omega, HR.out⟩, fun h => by omega, hb2⟩
          case measure => simp [intOf]; omega
        · rw [if_neg h32] at hw
          have hxi : ¬ (x.toNat : Int) = 32 := fun e => h32 (UInt8.toNat_inj.1 (by have : x.toNat = 32 := by omega
                                                                                   rw [this]; rfl))
          have hxb : ((x.toNat : Int) == 32) = false := by simpa using hxi
          rw [hstep] at hw
          have HR := Lib.hid hw
          have hkz : ¬ (k : Int) = (s.size : Int) := by omega
          clear hw hstep hxl h32
          go_wp2
          refine ⟨⟨k + 1, f, acc, A, c, by omega, by go_num, rfl, rfl, hown, by omega, fun _ => ⟨by omega, HR.out⟩, fun h => by omega, hbel⟩, by simp [intOf]; omega⟩
      · obtain rfl : k = s.size := by omega
        have R : words s.data.toList = acc ++ [(s.data.toList.drop f).take (s.size - f)] := by
          have h0 : s.data.toList.drop s.size = [] := List.drop_eq_nil_of_le (by rw [HSL.out]; exact Nat.le_refl _)
          rw [hw, h0]; rfl
        have HR := Lib.hid R
        clear hw R
        generalize hwd : ofBytes ((s.data.toList.drop f).take (s.size - f)) = wd at *
        have HW := Lib.hid hwd
        clear hwd
        go_wp2_with (at_builtin; refine wpList_append_own _ rfl (.tmp 22) (.tmp 27) 51 rfl w.heap.size 9 i0 (.string ⟨#[]⟩) 1 16 Tryd.underlying51 hi hz0 hz1 hz2 rfl (by decide) (.slice A acc.length c) acc.length (strs acc) rfl (hown.alloc _) ⟨wr.heap.size, 0, none⟩ 1 1 [.string wd] rfl rfl (cell_one_new _ _ _) (by intro u hu; simp at hu; subst hu; rfl) (by unfold maxLen; omega) (by omega) (by simp; omega) ?_; intro v' w2 hown' hgr' _)
        rw [← HW.out] at hown'
        obtain ⟨A', c', hv', hown2⟩ := own_push_str hown'
        have hb2 : Below w.heap.size w w2 := (hbel.alloc hz _).grown hgr' (by simp; omega) (fun g hg => (hown.lt g hg).1)
        go_roundw
        case rel => exact ⟨s.size + 1, s.size + 1, _, A', c', by omega, by go_num, by go_num, hv', hown2, by simp; omega, fun h => by omega, fun _ => HR.out, hb2⟩
        case measure => simp [intOf]
    · have hw := hout (by omega)
      have hkz : (s.size : Int) < (k : Int) := by omega
      have HR := Lib.hid hw
      clear hin hout hw
      go_wp2
      go_ret
      exact ⟨_, rfl, by rw [HR.out]; exact hown, hbel⟩
end Go.Proofs.YtdbpkggjnmapiaaDoor
