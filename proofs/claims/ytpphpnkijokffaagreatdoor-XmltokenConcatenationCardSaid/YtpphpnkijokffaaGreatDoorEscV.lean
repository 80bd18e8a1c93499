/- Package xmlescape: escape, Text, Attr, Unescape: what each returns. -/
import Derived.Test.YtpphpnkijokffaaGreatDoorEscI
import Derived.Test.YtpphpnkijokffaaGreatDoorBldr
namespace Go.Proofs.YtpphpnkijokffaaGreatDoor
open Go.RowKit

theorem idx_cases (c : UInt8) : ∀ l : List UInt8, (Lib.indexByte l c = -1 ∧ c ∉ l) ∨ ∃ n : Nat, Lib.indexByte l c = (n : Int) ∧ n < l.length ∧ l.getD n 0 = c ∧ c ∉ l.take n
  | [] => .inl ⟨rfl, by simp⟩
  | b :: l => by
    rw [Lib.indexByte]
    by_cases hb : b = c
    · subst hb
      rw [if_pos (by simp)]
      exact .inr ⟨0, rfl, by simp, rfl, by simp⟩
    · rw [if_neg (by simpa using hb)]
      rcases idx_cases c l with ⟨h1, h2⟩ | ⟨n, h1, h2, h3, h4⟩
      · rw [h1, if_pos (by decide)]
        exact .inl ⟨rfl, by rw [List.mem_cons, not_or]; exact ⟨fun e => hb e.symm, h2⟩⟩
      · rw [h1, if_neg (by simp)]
        refine .inr ⟨n + 1, by omega, by simpa using h2, by simpa using h3, ?_⟩
        rw [List.take_succ_cons, List.mem_cons, not_or]
        exact ⟨fun e => hb e.symm, h4⟩
/-- Bytes that are no ampersand are taken over. -/
theorem unF_skip (l : List UInt8) : ∀ (n f k : Nat) (out : List UInt8), k + n ≤ l.length → n ≤ f → (38 : UInt8) ∉ (l.drop k).take n → unF l f k out = unF l (f - n) (k + n) (out ++ (l.drop k).take n)
  | 0, f, k, out, _, _, _ => by simp
  | n + 1, 0, k, out, _, h, _ => absurd h (by omega)
  | n + 1, f + 1, k, out, hk, hf, hn => by
    have hkl : k < l.length := by omega
    rw [List.drop_eq_getElem_cons hkl, List.take_succ_cons, List.mem_cons, not_or] at hn
    have hg : l.getD k 0 = l[k] := by rw [List.getD_eq_getElem?_getD, List.getElem?_eq_getElem hkl]; rfl
    rw [unF, if_pos hkl, if_neg (by rw [hg]; exact fun e => hn.1 e.symm), hg, unF_skip l n f (k + 1) (out ++ [l[k]]) (by omega) (by omega) hn.2, List.drop_eq_getElem_cons hkl, List.take_succ_cons, List.append_assoc, show f + 1 - (n + 1) = f - n by omega, show k + 1 + n = k + (n + 1) by omega]
    rfl
theorem unF_end (l : List UInt8) (f k : Nat) (out : List UInt8) (hk : k ≤ l.length) (hf : l.length - k < f) (h : (38 : UInt8) ∉ l.drop k) : unF l f k out = (out ++ l.drop k, (l.length : Int), 0) := by
  have ht : (l.drop k).take (l.length - k) = l.drop k := List.take_of_length_le (by rw [List.length_drop]; omega)
  rw [unF_skip l (l.length - k) f k out (by omega) (by omega) (by rw [ht]; exact h), ht, show k + (l.length - k) = l.length by omega]
  obtain ⟨g, hg⟩ : ∃ g, f - (l.length - k) = g + 1 := ⟨f - (l.length - k) - 1, by omega⟩
  rw [hg, unF, if_neg (by omega)]
theorem enc_eb (r : Int) (h : isCharB r = true) : Lib.encodeRune r = eb r := by
  have h := of_decide_eq_true h
  have hn : ¬ (r < 0 ∨ 1114111 < r ∨ (55296 ≤ r ∧ r ≤ 57343)) := by omega
  have he : Lib.encodeRuneZ r = encZ r := by
    unfold encZ
    rw [if_neg hn]
    by_cases h1 : r < 128
    · rw [if_pos h1, Lib.encodeRuneZ_one (by omega) (by omega)]
    · rw [if_neg h1]
      by_cases h2 : r < 2048
      · rw [if_pos h2, Lib.encodeRuneZ_two (by omega) (by omega)]
      · rw [if_neg h2]
        by_cases h3 : r < 65536
        · rw [if_pos h3, Lib.encodeRuneZ_three (by omega)]
        · rw [if_neg h3, Lib.encodeRuneZ_four (by omega) (by omega)]
  unfold Lib.encodeRune eb
  rw [he]
theorem retU {a : List UInt8} {b c : Int} {p : List UInt8 × Int × Int} (h : p = (a, b, c)) : Ending.returned (.tuple #[.string (ofBytes a), .int .i64 b, .int .i64 c]) = .returned (.tuple #[.string (ofBytes p.1), .int .i64 p.2.1, .int .i64 p.2.2]) := by subst h; rfl
theorem esc_Index (s : ByteArray) (z : Int) (w : World) (h : Lib.indexByte s.data.toList 38 = z) : Calls Tryz.prog 86 #[.string s, .int .u8 38] w fun e w' => e = .returned (.int .i64 z) ∧ w = w' := by
  have := Tryz.strings_IndexByte s 38 w
  rw [show ((38 : Int).toNat.toUInt8) = (38 : UInt8) from rfl, h] at this
  exact this.mono fun e w' ⟨a, b⟩ => ⟨a, b.symm⟩
end Go.Proofs.YtpphpnkijokffaaGreatDoor
