/- Packed from the texts JsC JsD. -/
import Derived.Test.YtggfblodjanfkaaGreatDoorVkB
import Derived.Test.YtggfblodjanfkaaGreatDoorVkC
import Derived.Test.YtggfblodjanfkaaGreatDoorVkD
import Derived.Deep.AppendLies
import Derived.Deep.RegionLaw
section
namespace Go.Proofs.YtggfblodjanfkaaGreatDoor
open Go.RowKit Go.Lib
theorem jix (s : ByteArray) (k : IntKind) (i : Int) (n : Nat) (hn : i = (n : Int)) (h1 : n < s.size) (w : World) : (Instr.index 9 (.string s) (.int k i)).run Tryz.prog w = .ok (.int .u8 ((s.data.toList.getD n 0).toNat : Int)) w := by
  subst hn
  have hl : n < s.data.toList.length := by simpa using h1
  have hg : s.data.toList.getD n 0 = s[n]'h1 := by
    rw [List.getD_eq_getElem?_getD, List.getElem?_eq_getElem hl]
    simp [ByteArray.getElem_eq_getElem_data]
  rw [run_index_string (P := Tryz.prog) (w := w) 9 s k (n : Int) Tryz.underlying9, hg]
  simp [h1]
def letZ (c : Int) : Int := if c = 34 ∨ c = 92 then c else if c = 8 then 98 else if c = 9 then 116 else if c = 10 then 110 else if c = 12 then 102 else if c = 13 then 114 else 0
theorem letZ_eq (c : Nat) : ((letJ c : Nat) : Int) = letZ (c : Int) := by
  unfold letJ letZ
  repeat' split
  all_goals omega
theorem jretI {k : IntKind} {a b : Int} (h : a = b) : Ending.returned (.int k a) = .returned (.int k b) := by rw [h]
set_option maxRecDepth 100000 in
set_option maxHeartbeats 4000000 in
theorem jref_letter (c : Int) (w : World) :
    Calls Tryz.prog 79 #[.int .u8 c] w fun e w' => e = .returned (.int .u8 (letZ c)) ∧ w = w' := by
  rcases (by omega : c = 34 ∨ c = 92 ∨ c = 8 ∨ c = 9 ∨ c = 10 ∨ c = 12 ∨ c = 13 ∨ (c ≠ 34 ∧ c ≠ 92 ∧ c ≠ 8 ∧ c ≠ 9 ∧ c ≠ 10 ∧ c ≠ 12 ∧ c ≠ 13)) with rfl | rfl | rfl | rfl | rfl | rfl | rfl | ⟨h1, h2, h3, h4, h5, h6, h7⟩
  all_goals
    go_enter Tryz.func79, Tryz.ntmps79
    go_wp2
    go_ret
  all_goals first | exact ⟨rfl, rfl⟩ | exact ⟨jretI (by unfold letZ; rw [if_neg (by omega), if_neg h3, if_neg h4, if_neg h5, if_neg h6, if_neg h7]), rfl⟩
set_option maxRecDepth 100000 in
set_option maxHeartbeats 8000000 in
theorem jref_Valid (s : ByteArray) (w : World) (hs : s.size ≤ 1000000) :
    Calls Tryz.prog 78 #[.string s] w fun e w' => e = .returned (.bool (vaL s.data.toList)) ∧ Below w.heap.size w w' := by
  have HSL := Lib.hid (show s.data.toList.length = s.size by simp)
  go_enter Tryz.func78, Tryz.ntmps78
  go_wp2
  go_loopw [3] (fun q wr => ∃ k : Nat, k ≤ s.size ∧ q = .int .i64 k ∧ vaL s.data.toList = vaL (s.data.toList.drop k) ∧ Below w.heap.size w wr) (fun q _ => s.size - (RowKit.intOf q).toNat)
  case atStart => exact ⟨0, by omega, rfl, rfl, Below.refl _ _⟩
  case round =>
    obtain ⟨k, hk, rfl, hrel, hbel⟩ := hrel
    have hz := hbel.size
    by_cases hlt : k < s.size
    · have hdl : (s.data.toList.drop k).length = s.size - k := by rw [List.length_drop, HSL.out]
      have hne : s.data.toList.drop k ≠ [] := fun e => by rw [e] at hdl; simp at hdl; omega
      have cD : ∀ wx, _ := fun wx => ref_Decode s (k : Int) wx (by unfold maxLen; omega)
      rw [decI_at s k hlt, decP_drop s k (by omega)] at cD
      rw [vaL_eq _ hne, List.drop_drop] at hrel
      have hok := decL_ok _ hne
      rw [hdl] at hok
      clear hne hdl
      generalize decL (s.data.toList.drop k) = d at *
      obtain ⟨r, n⟩ := d
      simp only at cD hrel hok
      obtain ⟨hn1, hn2, _, _⟩ := hok
      rcases Nat.eq_zero_or_pos n with rfl | h0
      · rw [if_pos rfl] at hrel
        have HR := Lib.hid hrel
        clear hrel
        go_wp2_with fail
        refine (cD _).mono ?_
        rintro e w1 ⟨rfl, b1⟩
        go_wp2
        go_ret
        exact ⟨retb HR.out.symm, hbel.trans (b1.mono hz)⟩
      · rw [if_neg (by omega)] at hrel
        have HR := Lib.hid hrel
        have hnz : (n : Int) ≠ 0 := by omega
        clear hrel
        go_wp2_with fail
        refine (cD _).mono ?_
        rintro e w1 ⟨rfl, b1⟩
        go_wp2
        go_roundw
        case rel => exact ⟨k + n, by omega, by go_num, HR.out, hbel.trans (b1.mono hz)⟩
        case measure => simp [RowKit.intOf]; omega
    · obtain rfl : k = s.size := by omega
      rw [List.drop_eq_nil_of_le (by have := HSL.out; omega), vaL_nil] at hrel
      have HR := Lib.hid hrel
      clear hrel
      go_wp2
      go_ret
      exact ⟨retb HR.out.symm, hbel⟩
end Go.Proofs.YtggfblodjanfkaaGreatDoor
end
section
namespace Go.Proofs.YtggfblodjanfkaaGreatDoor
open Go.RowKit Go.Lib
theorem jinfo_u8 : (Tryz.prog.info? 5).map (fun i => (i.zero, i.size, i.bytes)) = some (some (.int .u8 0), 1, 1) := by kernel_rfl
theorem jrow_below {B : Nat} {e : TypeId} {k : Nat} {v : Value} {n : Nat} {xs : List Value} {w w' : World} (h : w.ownsRow B e k v n xs) (hb : Below w.heap.size w w') : w'.ownsRow B e k v n xs := by
  refine ⟨h.1, ?_⟩
  rcases h.2 with h0 | ⟨g, cap, cur, hv, hB, hg, rest⟩
  · exact .inl h0
  · have hlt : g < w.heap.size := (Array.getElem?_eq_some_iff.1 hg).1
    exact .inr ⟨g, cap, cur, hv, hB, (hb.block g hlt).trans hg, rest⟩
theorem jnews (w : World) (t : TypeId) (cs : List Value) (A : Array Value) (hA : A = cs.toArray) : ∀ j u, cs[j]? = some u → (w.alloc (.cells A t)).cell? ((⟨w.heap.size, 0, none⟩ : Addr).add j) = some u := by
  intro j u hu
  subst hA
  rw [addr_add, World.cell?_alloc_at _ _ _ _ rfl, List.getElem?_toArray]
  exact hu
theorem jnewsD (w : World) (t : TypeId) (cs : List Value) (A : Array Value) (hA : A = cs.toArray) : ∀ j u, cs[j]? = some u → (w.alloc (.cells A t)).drew.cell? ((⟨w.heap.size, 0, none⟩ : Addr).add j) = some u := fun j u hu => jnews w t cs A hA j u hu
theorem jrow_app {w : World} {B : Nat} {e : TypeId} {g cap m n : Nat} {acc l : List UInt8} {vs : List Value} (hv : u8s l = vs) (hn : acc.length + m = n) (hm : l.length = m)
    (h : w.ownsRow B e 1 (.slice (some ⟨g, 0, none⟩) n cap) n (u8s acc ++ vs)) : w.ownsRow B e 1 (.slice (some ⟨g, 0, none⟩) (acc ++ l).length cap) (acc ++ l).length (u8s (acc ++ l)) := by
  subst hv hm hn
  rw [u8s_append, List.length_append]
  exact h
theorem item_two (x : UInt8) (z : Int) (hz : (x.toNat : Int) = z) (h : letZ z ≠ 0) : u8s (itemJ x) = [.int .u8 92, .int .u8 (letZ z)] ∧ (itemJ x).length = 2 := by
  subst hz
  have hl := letZ_eq x.toNat
  have hb : letJ x.toNat < 256 := by
    have := x.toNat_lt
    unfold letJ
    repeat' split
    all_goals omega
  have hi : itemJ x = [92, UInt8.ofNat (letJ x.toNat)] := by unfold itemJ; rw [if_pos (by omega)]
  rw [hi]
  refine ⟨?_, rfl⟩
  simp only [u8s, List.map_cons, List.map_nil, UInt8.toNat_ofNat', Nat.mod_eq_of_lt hb, hl]
  rfl
set_option maxRecDepth 100000 in
theorem hexJ_lt : ∀ n : Fin 16, (hexJ n.val).toNat = if n.val < 10 then 48 + n.val else 87 + n.val := by decide
def hexZ (n : Int) : Int := if n < 10 then 48 + n else 87 + n
theorem hexJ_eq (n : Nat) (h : n < 16) : ((hexJ n).toNat : Int) = hexZ (n : Int) := by
  have := hexJ_lt ⟨n, h⟩
  simp only at this
  unfold hexZ
  rw [this]
  repeat' split
  all_goals omega
theorem item_six (x : UInt8) (z : Int) (hz : (x.toNat : Int) = z) (h : letZ z = 0) (h32 : z < 32) : u8s (itemJ x) = [.int .u8 92, .int .u8 117, .int .u8 48, .int .u8 48, .int .u8 (hexZ (z / 16)), .int .u8 (hexZ (z % 16))] ∧ (itemJ x).length = 6 := by
  subst hz
  have hl := letZ_eq x.toNat
  have hi : itemJ x = [92, 117, 48, 48, hexJ (x.toNat / 16), hexJ (x.toNat % 16)] := by unfold itemJ; rw [if_neg (by omega), if_pos (by omega)]
  rw [hi]
  refine ⟨?_, rfl⟩
  simp only [u8s, List.map_cons, List.map_nil]
  rw [hexJ_eq _ (by omega), hexJ_eq _ (by omega), show ((x.toNat / 16 : Nat) : Int) = (x.toNat : Int) / 16 by omega, show ((x.toNat % 16 : Nat) : Int) = (x.toNat : Int) % 16 by omega]
  rfl
theorem item_one (x : UInt8) (z : Int) (hz : (x.toNat : Int) = z) (h : letZ z = 0) (h32 : ¬ z < 32) : u8s (itemJ x) = [.int .u8 z] ∧ (itemJ x).length = 1 := by
  subst hz
  have hl := letZ_eq x.toNat
  have hi : itemJ x = [x] := by unfold itemJ; rw [if_neg (by omega), if_neg (by omega)]
  rw [hi]
  exact ⟨rfl, rfl⟩
set_option maxRecDepth 100000 in
theorem hex_at : ∀ (n : Fin 16) (k : IntKind) (w : World), (Instr.index 9 (.string ⟨#[48, 49, 50, 51, 52, 53, 54, 55, 56, 57, 97, 98, 99, 100, 101, 102]⟩) (.int k (n.val : Int))).run Tryz.prog w = .ok (.int .u8 (hexZ (n.val : Int))) w := by
  intro n k w
  have := jix ⟨#[48, 49, 50, 51, 52, 53, 54, 55, 56, 57, 97, 98, 99, 100, 101, 102]⟩ k (n.val : Int) n.val rfl n.isLt w
  rw [this]
  match n with
  | ⟨0, _⟩ => rfl
  | ⟨1, _⟩ => rfl
  | ⟨2, _⟩ => rfl
  | ⟨3, _⟩ => rfl
  | ⟨4, _⟩ => rfl
  | ⟨5, _⟩ => rfl
  | ⟨6, _⟩ => rfl
  | ⟨7, _⟩ => rfl
  | ⟨8, _⟩ => rfl
  | ⟨9, _⟩ => rfl
  | ⟨10, _⟩ => rfl
  | ⟨11, _⟩ => rfl
  | ⟨12, _⟩ => rfl
  | ⟨13, _⟩ => rfl
  | ⟨14, _⟩ => rfl
  | ⟨15, _⟩ => rfl
  | ⟨j + 16, h⟩ => exact absurd h (by omega)
theorem hex_atZ (z : Int) (h0 : 0 ≤ z) (h1 : z < 16) (k : IntKind) (w : World) : (Instr.index 9 (.string ⟨#[48, 49, 50, 51, 52, 53, 54, 55, 56, 57, 97, 98, 99, 100, 101, 102]⟩) (.int k z)).run Tryz.prog w = .ok (.int .u8 (hexZ z)) w := by
  obtain ⟨n, rfl⟩ := Int.eq_ofNat_of_zero_le h0
  exact hex_at ⟨n, by omega⟩ k w
theorem jretQ {a b : List UInt8} {n : Int} {p : List UInt8 × Int} (h : p = (a, n)) (hb : b = a) : Ending.returned (.tuple #[.string (ofBytes b), .int .i64 n]) = .returned (.tuple #[.string (ofBytes p.1), .int .i64 p.2]) := by subst h hb; rfl
def quoteP (l : List UInt8) : List UInt8 × Int := if vaL l = true then (quoteJ l, 0) else ([], 5)
theorem letZ_bd (z : Int) (h0 : 0 ≤ z) (h1 : z ≤ 255) : 0 ≤ letZ z ∧ letZ z ≤ 255 := by
  unfold letZ
  repeat' split
  all_goals omega
set_option maxRecDepth 100000 in
set_option maxHeartbeats 16000000 in
theorem jref_Quote (s : ByteArray) (w : World) (hs : s.size ≤ 1000000) :
    Calls Tryz.prog 68 #[.string s] w fun e w' => e = .returned (.tuple #[.string (ofBytes (quoteP s.data.toList).1), .int .i64 (quoteP s.data.toList).2]) ∧ Below w.heap.size w w' := by
  obtain ⟨i0, hi, hz0, hz1, hz2⟩ := info_parts jinfo_u8
  have HSL := Lib.hid (show s.data.toList.length = s.size by simp)
  have cV : ∀ wx, _ := fun wx => jref_Valid s wx hs
  have hq := quoteP.eq_1 s.data.toList
  have cL : ∀ z wx, _ := fun z wx => jref_letter z wx
  rcases hv : vaL s.data.toList with _ | _
  · rw [hv] at cV
    rw [hv, if_neg (by decide)] at hq
    have HQ := Lib.hid hq
    clear hq hv cL
    go_enter Tryz.func68, Tryz.ntmps68
    go_wp2_with fail
    refine (cV _).mono ?_
    rintro e w1 ⟨rfl, b1⟩
    go_wp2
    exact bodyPost_ret (v := .tuple #[.string (ofBytes []), .int .i64 5]) (by simp [results, Tryz.results68, go_sem]; rfl) rfl ⟨jretQ HQ.out rfl, b1⟩
  · rw [hv] at cV
    rw [hv, if_pos rfl] at hq
    have HQ := Lib.hid hq
    clear hq hv
    go_enter Tryz.func68, Tryz.ntmps68
    go_wp2_with fail
    refine (cV _).mono ?_
    rintro e w1 ⟨rfl, b1⟩
    have z1 := b1.size
    go_wp2
    have hown0 : (w1.alloc (.cells #[.int .u8 34] 5)).ownsRow w.heap.size 5 1 (.slice (some ⟨w1.heap.size, 0, none⟩) 1 1) 1 (u8s [34]) := World.ownsRow_lit w1 #[.int .u8 34] 1 z1 (by decide) rfl
    go_loopw [4, 5] (fun v q wr => ∃ (k : Nat) (acc : List UInt8) (g cap : Nat), k ≤ s.size ∧ q = .int .i64 k ∧ v = .slice (some ⟨g, 0, none⟩) acc.length cap ∧ wr.ownsRow w.heap.size 5 1 (.slice (some ⟨g, 0, none⟩) acc.length cap) acc.length (u8s acc) ∧ (quoteJ s.data.toList = acc ++ (itemsJ (s.data.toList.drop k) ++ [34]) ∧ acc.length ≤ 6 * k + 1) ∧ Below w.heap.size w wr) (fun _ q _ => s.size - (RowKit.intOf q).toNat)
    case atStart => exact ⟨0, [34], _, 1, by omega, rfl, rfl, hown0, ⟨rfl, by simp⟩, b1.alloc z1 _⟩
    case round =>
      obtain ⟨k, acc, g, cap, hk, rfl, rfl, hown, ⟨hrel, hal⟩, hbel⟩ := hrel
      have hz := hbel.size
      clear hown0
      by_cases hlt : k < s.size
      · have hkl : k < s.data.toList.length := by have := HSL.out; omega
        have hg : s.data.toList.getD k 0 = s.data.toList[k] := by rw [List.getD_eq_getElem?_getD, List.getElem?_eq_getElem hkl]; rfl
        have hix := jix s .i64 (k : Int) k rfl hlt
        rw [List.drop_eq_getElem_cons hkl, ← hg, itemsJ_cons, List.append_assoc, ← List.append_assoc acc] at hrel
        generalize s.data.toList.getD k 0 = x at *
        have hx8 := x.toNat_lt
        obtain ⟨z, hzx⟩ : ∃ z : Int, (x.toNat : Int) = z := ⟨_, rfl⟩
        rw [hzx] at hix
        have hz0' : 0 ≤ z := by omega
        have hz8 : z ≤ 255 := by omega
        have i2 := item_two x z hzx
        have i6 := item_six x z hzx
        have i1 := item_one x z hzx
        have hbd := letZ_bd z hz0' hz8
        have cL := cL z
        clear hg hkl hzx hx8
        by_cases hl : letZ z = 0
        · rw [hl] at cL
          by_cases h32 : z < 32
          · obtain ⟨hV, hlen⟩ := i6 hl h32
            have HR := Lib.hid hrel
            have HV := Lib.hid hV
            have HLEN := Lib.hid hlen
            obtain ⟨q1, hq1⟩ : ∃ q, IntKind.u8.wrap (z.tdiv 16) = q := ⟨_, rfl⟩
            obtain ⟨q2, hq2⟩ : ∃ q, z.tmod 16 = q := ⟨_, rfl⟩
            have e1 : z / 16 = q1 := by rw [← hq1, Int.tdiv_eq_ediv_of_nonneg hz0', IntKind.wrap_u8]; omega
            have e2 : z % 16 = q2 := by rw [← hq2, Int.tmod_eq_emod_of_nonneg hz0']
            have hx1 := fun w => hex_atZ q1 (by omega) (by omega) .u8 w
            have hx2 := fun w => hex_atZ q2 (by omega) (by omega) .u8 w
            rw [e1, e2] at HV
            clear e1 e2
            have hown1 : ∀ o, (wr.alloc o).drew.ownsRow w.heap.size 5 1 (.slice (some ⟨g, 0, none⟩) acc.length cap) acc.length (u8s acc) := fun o => hown.alloc o
            have hlt' := hown.lt
            clear hrel i1 i2 i6 hl hbd hV hlen hown
            generalize hexZ q1 = d1 at *
            generalize hexZ q2 = d2 at *
            go_wp2_with fail
            refine (cL _).mono ?_
            rintro e w' ⟨rfl, rfl⟩
            go_wp2
            go_region_law ((refine step_append_lies _ rfl (.tmp 36) (.tmp 43) 84 rfl w.heap.size 5 i0 (.int .u8 0) 1 1 Tryz.underlying84 hi hz0 hz1 hz2 rfl (by decide) (.slice (some ⟨g, 0, none⟩) acc.length cap) acc.length (u8s acc) (by simp [Act.eval]) (hown1 _) ⟨wr.heap.size, 0, none⟩ 6 6 [.int .u8 92, .int .u8 117, .int .u8 48, .int .u8 48, .int .u8 d1, .int .u8 d2] (by simp [Act.eval]) rfl (jnewsD _ _ _ _ rfl) (by intro u hu; simp at hu; rcases hu with rfl | rfl | rfl | rfl | rfl | rfl <;> rfl) (by decide) (by unfold maxLen; omega) (by omega) (by simp; omega) (wr.heap.size + 1) (by simp) ?_; intro g2 cap2 w2 hown2 hgr2 _ _))
            all_goals
              have hown3 := jrow_app HV.out rfl HLEN.out hown2
              have hb2 : Below w.heap.size w w2 := ((hbel.alloc hz _).drew).grown hgr2 (by simp; omega) (fun g' hg' => (hlt' g' hg').1)
              clear hown1 hown2
              go_wp2
              go_roundw
              case rel => exact ⟨k + 1, _, g2, cap2, by omega, by go_num, by rw [List.length_append, HLEN.out], hown3, ⟨HR.out, by rw [List.length_append, HLEN.out]; omega⟩, hb2⟩
              case measure => simp [RowKit.intOf]; omega
          · obtain ⟨hV, hlen⟩ := i1 hl h32
            have HR := Lib.hid hrel
            have HV := Lib.hid hV
            have HLEN := Lib.hid hlen
            clear hrel i1 i2 i6 hl hbd hV hlen
            go_wp2_with fail
            refine (cL _).mono ?_
            rintro e w' ⟨rfl, rfl⟩
            go_wp2_with (at_builtin; refine wpList_append_lies _ rfl (.tmp 20) (.tmp 22) 84 rfl w.heap.size 5 i0 (.int .u8 0) 1 1 Tryz.underlying84 hi hz0 hz1 hz2 rfl (by decide) (.slice (some ⟨g, 0, none⟩) acc.length cap) acc.length (u8s acc) rfl (hown.alloc _) ⟨wr.heap.size, 0, none⟩ 1 1 [.int .u8 z] rfl rfl (jnews _ _ _ _ rfl) (by intro u hu; simp at hu; first | (subst hu; rfl) | (rcases hu with rfl | rfl <;> rfl)) (by decide) (by unfold maxLen; omega) (by omega) (by simp; omega) (wr.heap.size + 1) (by simp) ?_; intro g2 cap2 w2 hown2 hgr2 _ _)
            have hown3 := jrow_app HV.out rfl HLEN.out hown2
            have hb2 : Below w.heap.size w w2 := (hbel.alloc hz _).grown hgr2 (by simp; omega) (fun g' hg' => (hown.lt g' hg').1)
            clear hown2
            go_wp2
            go_roundw
            case rel => exact ⟨k + 1, _, g2, cap2, by omega, by go_num, by rw [List.length_append, HLEN.out], hown3, ⟨HR.out, by rw [List.length_append, HLEN.out]; omega⟩, hb2⟩
            case measure => simp [RowKit.intOf]; omega
        · obtain ⟨hV, hlen⟩ := i2 hl
          have HR := Lib.hid hrel
          have HV := Lib.hid hV
          have HLEN := Lib.hid hlen
          clear hrel i1 i2 i6 hV hlen
          generalize letZ z = lz at *
          go_wp2_with fail
          refine (cL _).mono ?_
          rintro e w' ⟨rfl, rfl⟩
          go_wp2_with fail
          refine (cL _).mono ?_
          rintro e w' ⟨rfl, rfl⟩
          go_wp2_with (at_builtin; refine wpList_append_lies _ rfl (.tmp 28) (.tmp 31) 84 rfl w.heap.size 5 i0 (.int .u8 0) 1 1 Tryz.underlying84 hi hz0 hz1 hz2 rfl (by decide) (.slice (some ⟨g, 0, none⟩) acc.length cap) acc.length (u8s acc) rfl (hown.alloc _) ⟨wr.heap.size, 0, none⟩ 2 2 [.int .u8 92, .int .u8 lz] rfl rfl (jnews _ _ _ _ rfl) (by intro u hu; simp at hu; first | (subst hu; rfl) | (rcases hu with rfl | rfl <;> rfl)) (by decide) (by unfold maxLen; omega) (by omega) (by simp; omega) (wr.heap.size + 1) (by simp) ?_; intro g2 cap2 w2 hown2 hgr2 _ _)
          have hown3 := jrow_app HV.out rfl HLEN.out hown2
          have hb2 : Below w.heap.size w w2 := (hbel.alloc hz _).grown hgr2 (by simp; omega) (fun g' hg' => (hown.lt g' hg').1)
          clear hown2
          go_wp2
          go_roundw
          case rel => exact ⟨k + 1, _, g2, cap2, by omega, by go_num, by rw [List.length_append, HLEN.out], hown3, ⟨HR.out, by rw [List.length_append, HLEN.out]; omega⟩, hb2⟩
          case measure => simp [RowKit.intOf]; omega
      · obtain rfl : k = s.size := by omega
        rw [List.drop_eq_nil_of_le (by have := HSL.out; omega), show itemsJ [] = [] from rfl, List.nil_append] at hrel
        have HR := Lib.hid hrel
        clear hrel cL
        go_wp2_with (at_builtin; refine wpList_append_lies _ rfl (.tmp 45) (.tmp 46) 84 rfl w.heap.size 5 i0 (.int .u8 0) 1 1 Tryz.underlying84 hi hz0 hz1 hz2 rfl (by decide) (.slice (some ⟨g, 0, none⟩) acc.length cap) acc.length (u8s acc) rfl (hown.alloc _) ⟨wr.heap.size, 0, none⟩ 1 1 [.int .u8 34] rfl rfl (jnews _ _ _ _ rfl) (by intro u hu; simp at hu; first | (subst hu; rfl) | (rcases hu with rfl | rfl <;> rfl)) (by decide) (by unfold maxLen; omega) (by omega) (by simp; omega) (wr.heap.size + 1) (by simp) ?_; intro g2 cap2 w2 hown2 hgr2 _ _)
        have hown3 := jrow_app (l := [34]) rfl rfl rfl hown2
        have hb2 : Below w.heap.size w w2 := (hbel.alloc hz _).grown hgr2 (by simp; omega) (fun g' hg' => (hown.lt g' hg').1)
        have hconv := convert_own (P := Tryz.prog) (w := w2) (src := 84) (dst := 9) Tryz.underlying84 Tryz.underlying5 Tryz.underlying9 hown3
        rw [show (acc ++ [(34 : UInt8)]).length = acc.length + 1 by simp, ← HR.out] at hconv
        clear hown2 hown3
        go_wp2_with (rw [hconv])
        exact bodyPost_ret (v := .tuple #[.string (ofBytes (quoteJ s.data.toList)), .int .i64 0]) (by simp [results, Tryz.results68, go_sem]) rfl ⟨jretQ HQ.out rfl, hb2⟩
end Go.Proofs.YtggfblodjanfkaaGreatDoor
end
