/- Packed from the texts JwL. -/
import Derived.Test.YtdooadalkbghgaaDoorVk5
import Derived.Test.YtdooadalkbghgaaDoorVkM
import Derived.Deep.AppendLies
import Derived.Deep.RegionHeld3
section
namespace Go.Proofs.YtdooadalkbghgaaDoor
open Go.RowKit
theorem leaf_val (w : World) (k n : Int) (b : Bool) (s : ByteArray) : ValIs w (.mk k b n s [] [] 0) (.agg #[.int .i64 k, .bool b, .int .i64 n, .string s, .slice none 0 0, .slice none 0 0, .int .i64 0]) :=
  (val_is _ _ _).2 ⟨none, 0, none, 0, rfl, of_eq_true (ItemsAt_nil _ _ _), of_eq_true (MemsAt_nil _ _ _)⟩
theorem arr_val {w : World} {l : List ValD} {p : Option Addr} (k : Int) (c : Nat) (h : ItemsAt w p 0 l) : ValIs w (.mk k false 0 ⟨#[]⟩ l [] 0) (.agg #[.int .i64 k, .bool false, .int .i64 0, .string ⟨#[]⟩, .slice p l.length c, .slice none 0 0, .int .i64 0]) :=
  (val_is _ _ _).2 ⟨p, c, none, 0, rfl, h, of_eq_true (MemsAt_nil _ _ _)⟩
theorem obj_val {w : World} {l : List MemD} {p : Option Addr} (k : Int) (c : Nat) (h : MemsAt w p 0 l) : ValIs w (.mk k false 0 ⟨#[]⟩ [] l 0) (.agg #[.int .i64 k, .bool false, .int .i64 0, .string ⟨#[]⟩, .slice none 0 0, .slice p l.length c, .int .i64 0]) :=
  (val_is _ _ _).2 ⟨none, 0, p, c, rfl, of_eq_true (ItemsAt_nil _ _ _), h⟩
theorem jeq_self (n : ValD) (hc : n.cnt ≤ 100000000) (v u : Value) (w : World) (hv : ValIs w n v) (hu : ValIs w n u) : Calls Tryd.prog 15 #[v, u, .bool true] w fun e w' => e = .returned (.bool true) ∧ Below w.heap.size w w' := by
  have := jref_Equal true n.cnt n n v u w (Nat.le_refl _) hc hv hu
  rwa [veq_self] at this
def mkM (s : ByteArray) (k : ValD) : MemD := .mk s k 0
theorem MRow.at {w : World} {X : Nat → Bool} : ∀ (l : List MemD) (xs : List Value), MRow w X l xs → ∀ i (h : i < l.length), ∃ v0 v1 v2 v3 v4 v5 v6, (∀ j u, [.string l[i].key, v0, v1, v2, v3, v4, v5, v6, .int .i64 l[i].at'][j]? = some u → xs[i * 9 + j]? = some u) ∧ ValIs (sans w X) l[i].v (.agg #[v0, v1, v2, v3, v4, v5, v6])
  | [], _, _, i, h => absurd h (Nat.not_lt_zero _)
  | k :: r, xs, hm, 0, _ => by
    rw [MRow] at hm
    obtain ⟨v0, v1, v2, v3, v4, v5, v6, ys, rfl, hv, -⟩ := hm
    refine ⟨v0, v1, v2, v3, v4, v5, v6, fun j u hj => ?_, hv⟩
    have hjl := (List.getElem?_eq_some_iff.1 hj).1
    rw [Nat.zero_mul, Nat.zero_add]
    exact (List.getElem?_append_left (l₂ := ys) hjl).trans hj
  | k :: r, xs, hm, i + 1, h => by
    rw [MRow] at hm
    obtain ⟨u0, u1, u2, u3, u4, u5, u6, ys, rfl, -, hr⟩ := hm
    obtain ⟨v0, v1, v2, v3, v4, v5, v6, hc, hv⟩ := MRow.at r ys hr i (by simpa using h)
    refine ⟨v0, v1, v2, v3, v4, v5, v6, fun j u hj => ?_, hv⟩
    have := hc j u hj
    rw [show (i + 1) * 9 + j = (i * 9 + j) + 9 by omega]
    exact this
theorem mst_parts : (Tryd.prog.info? 36).map (fun i => (i.zero, i.size, i.bytes)) = some (some (.agg #[.string ⟨#[]⟩, .int .i64 0, .bool false, .int .i64 0, .string ⟨#[]⟩, .slice none 0 0, .slice none 0 0, .int .i64 0, .int .i64 0]), 9, 120) := by kernel_rfl
set_option maxRecDepth 100000 in
set_option maxHeartbeats 64000000 in
theorem walk_JwBuildsA (l : List ValD) (p : Option Addr) (c : Nat) (s : ByteArray) (n : Int) (w : World) (hT : TabW w) (hx : 20 < l.length) :
    Calls Tryd.prog 4 #[.slice p l.length c, .string s, .int .i64 n] w fun e w' => e = .returned (.bool true) ∧ Below w.heap.size w w' := by
  have hxz : (20 : Int) < (l.length : Int) := by omega
  go_enter Tryd.func4, Tryd.ntmps4
  go_wp2_with fail
  refine (jw_alive _ hT).mono ?_
  rintro e w3 ⟨rfl, b3⟩
  go_wp2
  go_ret
  exact ⟨rfl, b3⟩
set_option maxRecDepth 100000 in
set_option maxHeartbeats 64000000 in
theorem walk_JwBuildsB (l : List ValD) (p : Option Addr) (c : Nat) (s : ByteArray) (n : Int) (w : World) (hT : TabW w) (hI : ItemsAt w p 0 l) (hl : l.length ≤ 140737488351232) (hW : VWFs l) (hx : ¬ 20 < l.length) (hy : 5000 < ValD.wgt (.mk 0 false 0 ⟨#[]⟩ l [] 0) 0) :
    Calls Tryd.prog 4 #[.slice p l.length c, .string s, .int .i64 n] w fun e w' => e = .returned (.bool true) ∧ Below w.heap.size w w' := by
  have hWF : (ValD.mk 0 false 0 ⟨#[]⟩ l [] 0).WF := by
    rw [ValD.WF, MWFs]
    exact ⟨hl, Nat.zero_le _, hW, trivial⟩
  have cL := law_TooLargeJ (.mk 0 false 0 ⟨#[]⟩ l [] 0) (.agg #[.int .i64 0, .bool false, .int .i64 0, .string ⟨#[]⟩, .slice p l.length c, .slice none 0 0, .int .i64 0]) w hWF (arr_val 0 c hI)
  have hxz : ¬ (20 : Int) < (l.length : Int) := by omega
  rw [decide_eq_true hy, show oneIfJ true = 1 from rfl] at cL
  go_enter Tryd.func4, Tryd.ntmps4
  go_wp2_with fail
  refine cL.mono ?_
  rintro e w2 ⟨rfl, b2⟩
  have t2 := TabW_below hT b2
  go_wp2_with fail
  refine (jw_alive _ t2).mono ?_
  rintro e w3 ⟨rfl, b3⟩
  go_wp2
  go_ret
  exact ⟨rfl, b2.trans (b3.mono b2.size)⟩
set_option maxRecDepth 100000 in
set_option maxHeartbeats 64000000 in
theorem walk_JwBuildsC (l : List ValD) (p : Option Addr) (c : Nat) (s : ByteArray) (n : Int) (w : World) (hT : TabW w) (hI : ItemsAt w p 0 l) (hl : l.length ≤ 140737488351232) (hW : VWFs l) (hx : ¬ 20 < l.length) (hy : ¬ 5000 < ValD.wgt (.mk 0 false 0 ⟨#[]⟩ l [] 0) 0) (hs : 1000 < s.size) :
    Calls Tryd.prog 4 #[.slice p l.length c, .string s, .int .i64 n] w fun e w' => e = .returned (.bool true) ∧ Below w.heap.size w w' := by
  have hWF : (ValD.mk 0 false 0 ⟨#[]⟩ l [] 0).WF := by
    rw [ValD.WF, MWFs]
    exact ⟨hl, Nat.zero_le _, hW, trivial⟩
  have cL := law_TooLargeJ (.mk 0 false 0 ⟨#[]⟩ l [] 0) (.agg #[.int .i64 0, .bool false, .int .i64 0, .string ⟨#[]⟩, .slice p l.length c, .slice none 0 0, .int .i64 0]) w hWF (arr_val 0 c hI)
  have hxz : ¬ (20 : Int) < (l.length : Int) := by omega
  have hsz : (1000 : Int) < (s.size : Int) := by omega
  rw [decide_eq_false hy, show oneIfJ false = 0 from rfl] at cL
  go_enter Tryd.func4, Tryd.ntmps4
  go_wp2_with fail
  refine cL.mono ?_
  rintro e w2 ⟨rfl, b2⟩
  have t2 := TabW_below hT b2
  go_wp2_with fail
  refine (jw_alive _ t2).mono ?_
  rintro e w3 ⟨rfl, b3⟩
  go_wp2
  go_ret
  exact ⟨rfl, b2.trans (b3.mono b2.size)⟩
set_option maxRecDepth 100000 in
set_option maxHeartbeats 64000000 in
theorem walk_JwBuildsD (l : List ValD) (p : Option Addr) (c : Nat) (s : ByteArray) (n : Int) (w : World) (hT : TabW w) (hI : ItemsAt w p 0 l) (hl : l.length ≤ 140737488351232) (hW : VWFs l) (hx : ¬ 20 < l.length) (hy : ¬ 5000 < ValD.wgt (.mk 0 false 0 ⟨#[]⟩ l [] 0) 0) (hs : ¬ 1000 < s.size) :
    Calls Tryd.prog 4 #[.slice p l.length c, .string s, .int .i64 n] w fun e w' => e = .returned (.bool true) ∧ Below w.heap.size w w' := by
  have hWF : (ValD.mk 0 false 0 ⟨#[]⟩ l [] 0).WF := by
    rw [ValD.WF, MWFs]
    exact ⟨hl, Nat.zero_le _, hW, trivial⟩
  have cL := law_TooLargeJ (.mk 0 false 0 ⟨#[]⟩ l [] 0) (.agg #[.int .i64 0, .bool false, .int .i64 0, .string ⟨#[]⟩, .slice p l.length c, .slice none 0 0, .int .i64 0]) w hWF (arr_val 0 c hI)
  have hxz : ¬ (20 : Int) < (l.length : Int) := by omega
  have hsz : ¬ (1000 : Int) < (s.size : Int) := by omega
  have hlz : (l.length : Int) ≤ 20 := by omega
  rw [decide_eq_false hy, show oneIfJ false = 0 from rfl] at cL
  have hbk := not_large_bulk hy
  rw [ValD.bulk] at hbk
  have hbA : ∀ k ∈ l, k.bulk ≤ 1000000 := fun k hk => by
    have := bulkVs_mem l k hk
    omega
  have hcA : ∀ k ∈ l, k.cnt ≤ 100000000 := fun k hk => Nat.le_trans (cnt_bulk k) (Nat.le_trans (hbA k hk) (by decide))
  have hml : (l.map (mkM s)).length = l.length := List.length_map _
  have HMl := Lib.hid hml
  have hcnA : (ValD.mk 4 false 0 ⟨#[]⟩ l [] 0).cnt ≤ 100000000 := by
    have := cnts_bulk l
    rw [ValD.cnt, mcnts]
    omega
  have hmc : mcnts (l.map (mkM s)) = vcnts l := by
    clear hI hl hW hx hy hs hWF cL hxz hsz hlz hbk hbA hcA hml HMl hcnA
    induction l with
    | nil => rfl
    | cons k r ih => rw [List.map_cons, mcnts, vcnts, ih, mkM, MemD.cnt]
  have hcnO : (ValD.mk 5 false 0 ⟨#[]⟩ [] (l.map (mkM s)) 0).cnt ≤ 100000000 := by
    have := cnts_bulk l
    rw [ValD.cnt, vcnts, hmc]
    omega
  have HBA := Lib.hid hbA
  have HCA := Lib.hid hcA
  have HI := Lib.hid hI
  have HT := Lib.hid hT
  have cArr := Lib.hid (fun wx (h : ItemsAt wx p 0 l) => jw_Array l hbA p c wx h (by omega))
  have cObj := Lib.hid (fun wx P cap (h : MemsAt wx P 0 (l.map (mkM s))) => jw_Object (l.map (mkM s)) (fun k hk => by
    obtain ⟨y, hy, rfl⟩ := List.mem_map.1 hk
    exact hbA y hy) P cap wx h (by omega))
  obtain ⟨nA, hnA⟩ : ∃ nA, nA = (ValD.mk 4 false 0 ⟨#[]⟩ l [] 0) := ⟨_, rfl⟩
  obtain ⟨nO, hnO⟩ : ∃ nO, nO = (ValD.mk 5 false 0 ⟨#[]⟩ [] (l.map (mkM s)) 0) := ⟨_, rfl⟩
  have cEA := Lib.hid (fun wx v u h h' => jeq_self nA (by rw [hnA]; exact hcnA) v u wx h h')
  have cEO := Lib.hid (fun wx v u h h' => jeq_self nO (by rw [hnO]; exact hcnO) v u wx h h')
  have vA := Lib.hid (fun wx (h : ItemsAt wx p 0 l) => (show ValIs wx nA _ from hnA ▸ arr_val 4 c h))
  have vO := Lib.hid (fun wx P cap (h : MemsAt wx P 0 (l.map (mkM s))) => (show ValIs wx nO (.agg #[.int .i64 5, .bool false, .int .i64 0, .string ⟨#[]⟩, .slice none 0 0, .slice P l.length cap, .int .i64 0]) from hnO ▸ (hml ▸ obj_val 5 cap h)))
  have HNA := Lib.hid hnA
  have HNO := Lib.hid hnO
  obtain ⟨i0, hi0, hi1, hi3, hi4⟩ := info_parts mst_parts
  clear hI hT hl hW hx hy hs hWF hbk hbA hcA hml hcnA hcnO hmc hnA hnO
  go_enter Tryd.func4, Tryd.ntmps4
  go_wp2_with fail
  refine cL.mono ?_
  rintro e w2 ⟨rfl, b2⟩
  have HB2 := Lib.hid b2
  clear cL b2
  go_wp2
  go_loopw [30, 7] (fun q v wr => ∃ (i : Nat) (xs : List Value) (P : Option Addr) (cap : Nat), i ≤ l.length ∧ q = .int .i64 i ∧ v = .slice P i cap ∧ wr.ownsRow w.heap.size 36 9 (.slice P i cap) i xs ∧ MRow wr (lowx w.heap.size (Value.slice P i cap).ownBlock) ((l.take i).map (mkM s)) xs ∧ Below w.heap.size w wr) (fun q _ _ => l.length - (RowKit.intOf q).toNat)
  case atStart => exact ⟨0, [], none, 0, Nat.zero_le _, rfl, rfl, ⟨rfl, .inl ⟨rfl, rfl⟩⟩, by rw [List.take_zero, List.map_nil, MRow], HB2.out⟩
  case round =>
    clear HB2
    obtain ⟨i, xs, P, cap, hi, rfl, rfl, ho, hr, hbr⟩ := hrel
    have hzr := hbr.size
    by_cases hlt : i < l.length
    · have hiz : (i : Int) < (l.length : Int) := by omega
      clear cArr cObj cEA cEO vA vO HNA HNO
      obtain ⟨a, p2, c2, q2, d2, rfl, ⟨a0, a1, a2, a3, a4, a5, a6⟩, hk⟩ := (HI.out.below hbr).cells i hlt
      obtain ⟨k, hkk⟩ : ∃ k, l[i] = k := ⟨_, rfl⟩
      have hmem : k ∈ l := by rw [← hkk]; exact List.getElem_mem _
      have hcs : l.take (i + 1) = l.take i ++ [l[i]] := List.take_succ_eq_append_getElem hlt
      rw [hkk] at hk a0 a1 a2 a3 a4 a5 a6 hcs
      have hcs' : (l.take (i + 1)).map (mkM s) = (l.take i).map (mkM s) ++ [mkM s k] := by rw [hcs, List.map_append]; rfl
      obtain ⟨cc, hcc⟩ : ∃ c, a.add (i * 7) = c := ⟨_, rfl⟩
      rw [hcc] at a0 a1 a2 a3 a4 a5 a6
      simp only [Addr.add, Nat.reduceEqDiff, ↓reduceIte] at a1 a2 a3 a4 a5 a6
      obtain ⟨W2, hW2⟩ : ∃ W2, W2 = wr.alloc (.cells #[.int .i64 k.kind, .bool k.b, .int .i64 k.n, .string k.s, .slice p2 k.items.length c2, .slice q2 k.mems.length d2, .int .i64 k.at'] 25) := ⟨_, rfl⟩
      have hb2 : Below wr.heap.size wr W2 := by rw [hW2]; exact (Below.refl _ _).alloc (Nat.le_refl _) _
      have hz2 : W2.heap.size = wr.heap.size + 1 := by rw [hW2]; simp
      have B2 : Bj W2 wr.heap.size #[.int .i64 k.kind, .bool k.b, .int .i64 k.n, .string k.s, .slice p2 k.items.length c2, .slice q2 k.mems.length d2, .int .i64 k.at'] 25 := by rw [hW2]; exact Bj.new wr _ _
      obtain ⟨⟨k0, k1, k2, k3, k4, k5, k6⟩, -⟩ := B2.seven
      have c1 := jw_Member s k _ W2 (HBA.out k hmem) (hk.below hb2)
      have c1 := fun (wx : World) (hx : wx = W2) => (show Calls Tryd.prog 12 _ wx _ from hx ▸ c1)
      have HO := Lib.hid ho
      have HR := Lib.hid hr
      have HBR := Lib.hid hbr
      have HB2 := Lib.hid hb2
      have HCS := Lib.hid hcs'
      clear ho hr hbr hb2 B2 hk hmem hkk hcs hcs'
      go_wp2_with fail
      refine (c1 _ hW2.symm).mono ?_
      rintro e w1 ⟨⟨y0, y1, y2, y3, y4, y5, y6, rfl, hx⟩, b1⟩
      obtain ⟨p3, c3, q3, d3, he⟩ := val_form hx.full
      simp only [Value.agg.injEq, Array.mk.injEq, List.cons.injEq, and_true] at he
      obtain ⟨rfl, rfl, rfl, rfl, rfl, rfl, rfl⟩ := he
      rw [← hW2] at hx b1
      have hz3 := b1.size
      have b01 : Below wr.heap.size wr w1 := HB2.out.trans (b1.mono HB2.out.size)
      have b04 : Below wr.heap.size wr (w1.alloc (.cells #[.string s, .int .i64 k.kind, .bool k.b, .int .i64 k.n, .string k.s, .slice p3 k.items.length c3, .slice q3 k.mems.length d3, .int .i64 k.at', .int .i64 0] 36)) := b01.alloc b01.size _
      have hown4 := jrow_same HO.out (fun g' hg' => b04.block g' (HO.out.lt g' hg').2)
      have hnews : ∀ j u, ([.string s, .int .i64 k.kind, .bool k.b, .int .i64 k.n, .string k.s, .slice p3 k.items.length c3, .slice q3 k.mems.length d3, .int .i64 k.at', .int .i64 0] : List Value)[j]? = some u → (w1.alloc (.cells #[.string s, .int .i64 k.kind, .bool k.b, .int .i64 k.n, .string k.s, .slice p3 k.items.length c3, .slice q3 k.mems.length d3, .int .i64 k.at', .int .i64 0] 36)).cell? ((⟨w1.heap.size, 0, none⟩ : Addr).add j) = some u := World.news_of_block (heap_alloc_new w1 _)
      have hown0 := HO.out.lt
      have HX := Lib.hid hx
      have H1 := Lib.hid b1
      have H04 := Lib.hid b04
      clear c1 hW2 b1 b01 b04 hx k0 k1 k2 k3 k4 k5 k6 a0 a1 a2 a3 a4 a5 a6
      go_wp2_with (at_builtin; refine wpList_append_lies _ rfl (.tmp 34) (.tmp 38) 23 rfl w.heap.size 36 i0 (.agg #[.string ⟨#[]⟩, .int .i64 0, .bool false, .int .i64 0, .string ⟨#[]⟩, .slice none 0 0, .slice none 0 0, .int .i64 0, .int .i64 0]) 9 120 Tryd.underlying23 hi0 hi1 hi3 hi4 rfl (by decide) (.slice P i cap) i xs rfl hown4 ⟨w1.heap.size, 0, none⟩ 1 1 [.string s, .int .i64 k.kind, .bool k.b, .int .i64 k.n, .string k.s, .slice p3 k.items.length c3, .slice q3 k.mems.length d3, .int .i64 k.at', .int .i64 0] rfl rfl hnews (by intro u hu; simp at hu; rcases hu with rfl | rfl | rfl | rfl | rfl | rfl | rfl | rfl | rfl <;> rfl) (by decide) (by unfold maxLen; omega) (by omega) (by simp; omega) (w1.heap.size + 1) (by simp) ?_; intro g cap' w6 hown6 hgr6 hat6 hlt6)
      have hgb : w.heap.size ≤ g := by
        rcases hat6 with e | e
        · exact (hown0 g e).1
        · omega
      have hsz6 := hgr6.size
      have hz4 : (w1.alloc (.cells #[.string s, .int .i64 k.kind, .bool k.b, .int .i64 k.n, .string k.s, .slice p3 k.items.length c3, .slice q3 k.mems.length d3, .int .i64 k.at', .int .i64 0] 36)).heap.size = w1.heap.size + 1 := by simp
      have hB6 : Below w.heap.size w w6 := (HBR.out.trans (H04.out.mono hzr)).grown hgr6 (by omega) (fun j hj => (hown0 j hj).1)
      have hbig : ∀ j, j < w1.heap.size → (Value.slice P i cap).ownBlock ≠ some j → j ≠ g := fun j hj hn e => by
        subst e
        rcases hat6 with e | e
        · exact hn e
        · omega
      have hR6 : MRow w6 (lowx w.heap.size (some g)) ((l.take i).map (mkM s)) xs := MRow.go (fun j hj hn => by
        obtain ⟨h1, h2⟩ := lowx_no hn
        have hj1 : j < w1.heap.size := by omega
        refine ⟨lowx_ok h1 (fun e => hbig j hj1 h2 (by injection e with e; exact e.symm)), (hgr6.block j (by omega) (fun e => h2 e.symm)).trans (H04.out.block j hj)⟩) _ _ HR.out
      have hX6 : ValIs (sans w6 (lowx w.heap.size (some g))) k (.agg #[.int .i64 k.kind, .bool k.b, .int .i64 k.n, .string k.s, .slice p3 k.items.length c3, .slice q3 k.mems.length d3, .int .i64 k.at']) := HX.out.go (fun j hj hn => by
        have h1 := low_no hn
        have h2 : (Value.slice P i cap).ownBlock ≠ some j := fun e => by have := (hown0 j e).2; omega
        refine ⟨lowx_ok (by omega) (fun e => hbig j hj h2 (by injection e with e; exact e.symm)), (hgr6.block j (by omega) (fun e => h2 e.symm)).trans (heap_alloc_old w1 _ hj)⟩)
      have hR7 := Lib.hid (MRow.snoc (k := mkM s k) hX6 _ _ hR6)
      have hB7 := Lib.hid hB6
      have hO7 := Lib.hid hown6
      clear hR6 hX6 hB6 hown6 hgr6 hat6 hbig hown4 hnews hown0 HO HR HBR HB2 HX H1 H04
      go_wp2
      go_roundw
      case rel => exact ⟨i + 1, _, some ⟨g, 0, none⟩, cap', by omega, by go_num, rfl, hO7.out, by rw [HCS.out]; exact hR7.out, hB7.out⟩
      case measure => simp [intOf]; omega
    · obtain rfl : i = l.length := by omega
      have hiz : ¬ (l.length : Int) < (l.length : Int) := by omega
      rw [List.take_length] at hr
      obtain ⟨wo, rfl⟩ : ∃ wo, wo = wr := ⟨_, rfl⟩
      have cA1 := cArr.out wo (HI.out.below hbr)
      have HO := Lib.hid ho
      have HR := Lib.hid hr
      have HBR := Lib.hid hbr
      clear ho hr hbr
      go_wp2_with fail
      refine cA1.mono ?_
      rintro e w3 ⟨⟨xA, rfl, hxA⟩, b3⟩
      rw [← HNA.out] at hxA
      obtain ⟨p3, c3, q3, d3, rfl⟩ := val_form hxA
      have hz3 := b3.size
      have hown3 := jrow_same HO.out (fun g' hg' => b3.block g' (HO.out.lt g' hg').2)
      have hR3 : MRow w3 (lowx w.heap.size (Value.slice P l.length cap).ownBlock) (l.map (mkM s)) xs := MRow.go (Gos.below b3) _ _ HR.out
      have hM3 : MemsAt w3 P 0 (l.map (mkM s)) := MemsAt.mono (fun _ _ hc => (sans_cell hc).1) _ _ _ (MRow.whole hown3 hR3 HMl.out.symm)
      have cO1 := cObj.out w3 P cap hM3
      rw [HMl.out] at cO1
      have HG := Lib.hid (show ∀ k, (Value.slice P l.length cap).ownBlock = some k → w.heap.size ≤ k ∧ k < w3.heap.size from fun k hk => ⟨(HO.out.lt k hk).1, Nat.lt_of_lt_of_le (HO.out.lt k hk).2 hz3⟩)
      have HB3 := Lib.hid (HBR.out.trans (b3.mono hzr))
      have HO3 := Lib.hid hown3
      have HR3 := Lib.hid hR3
      have HM3 := Lib.hid hM3
      have HXA := Lib.hid hxA.full
      clear cA1 hxA b3 hown3 hR3 hM3 HO HR HBR cArr cObj
      go_wp2_with fail
      refine cO1.mono ?_
      rintro e w4 ⟨⟨xO, rfl, hxO⟩, b4⟩
      rw [← HNO.out] at hxO
      obtain ⟨p4, c4, q4, d4, rfl⟩ := val_form hxO
      obtain ⟨W5, hW5⟩ : ∃ W5, W5 = (w4.alloc (.cells #[.int .i64 nA.kind, .bool nA.b, .int .i64 nA.n, .string nA.s, .slice p3 nA.items.length c3, .slice q3 nA.mems.length d3, .int .i64 nA.at'] 25)).alloc (.cells #[.int .i64 nO.kind, .bool nO.b, .int .i64 nO.n, .string nO.s, .slice p4 nO.items.length c4, .slice q4 nO.mems.length d4, .int .i64 nO.at'] 25) := ⟨_, rfl⟩
      have e1 : Below w4.heap.size w4 (w4.alloc (.cells #[.int .i64 nA.kind, .bool nA.b, .int .i64 nA.n, .string nA.s, .slice p3 nA.items.length c3, .slice q3 nA.mems.length d3, .int .i64 nA.at'] 25)) := (Below.refl _ _).alloc (Nat.le_refl _) _
      have hz41 : (w4.alloc (.cells #[.int .i64 nA.kind, .bool nA.b, .int .i64 nA.n, .string nA.s, .slice p3 nA.items.length c3, .slice q3 nA.mems.length d3, .int .i64 nA.at'] 25)).heap.size = w4.heap.size + 1 := by simp
      have e2 : Below (w4.alloc (.cells #[.int .i64 nA.kind, .bool nA.b, .int .i64 nA.n, .string nA.s, .slice p3 nA.items.length c3, .slice q3 nA.mems.length d3, .int .i64 nA.at'] 25)).heap.size (w4.alloc (.cells #[.int .i64 nA.kind, .bool nA.b, .int .i64 nA.n, .string nA.s, .slice p3 nA.items.length c3, .slice q3 nA.mems.length d3, .int .i64 nA.at'] 25)) W5 := by rw [hW5]; exact (Below.refl _ _).alloc (Nat.le_refl _) _
      have b45 : Below w4.heap.size w4 W5 := e1.trans (e2.mono e1.size)
      have XA : JBox W5 w4.heap.size nA p3 c3 q3 d3 := (JBox.of (Bj.new w4 #[.int .i64 nA.kind, .bool nA.b, .int .i64 nA.n, .string nA.s, .slice p3 nA.items.length c3, .slice q3 nA.mems.length d3, .int .i64 nA.at'] 25)).below e2
      have XO : JBox W5 (w4.heap.size + 1) nO p4 c4 q4 d4 := by
        have := JBox.of (Bj.new (w4.alloc (.cells #[.int .i64 nA.kind, .bool nA.b, .int .i64 nA.n, .string nA.s, .slice p3 nA.items.length c3, .slice q3 nA.mems.length d3, .int .i64 nA.at'] 25)) #[.int .i64 nO.kind, .bool nO.b, .int .i64 nO.n, .string nO.s, .slice p4 nO.items.length c4, .slice q4 nO.mems.length d4, .int .i64 nO.at'] 25)
        rw [hz41] at this
        rw [hW5]
        exact this
      have b35 : Below w3.heap.size w3 W5 := b4.trans (b45.mono b4.size)
      have hz4 := b4.size
      have hA5 := HXA.out.below b35
      have hO5 := hxO.full.below b45
      have hM5 := HM3.out.below b35
      have HB5 := Lib.hid (HB3.out.trans (b35.mono HB3.out.size))
      have HO5 := Lib.hid (jrow_same HO3.out (fun g' hg' => b35.block g' (HG.out g' hg').2))
      have HR5 := Lib.hid (MRow.go (Gos.below b35) _ _ HR3.out)
      have hmo : MemsAt (sans w4 (low w3.heap.size)) q4 0 (l.map (mkM s)) := by
        obtain ⟨_, _, _, _, he, -, hm⟩ := (val_is _ _ _).1 hxO
        simp only [Value.agg.injEq, Array.mk.injEq, List.cons.injEq, Value.slice.injEq, and_true, true_and] at he
        have hq := he.2.1
        rw [HNO.out] at hm
        rw [hq]
        exact hm
      have HMO := Lib.hid (MemsAt.mono (fun ad u hc => (Gos.below b45).cell ad u hc) _ _ _ hmo)
      have hmol : nO.mems.length = l.length := by rw [HNO.out]; exact HMl.out
      have cE1 := cEA.out W5 _ _ hA5 (vA.out W5 (HI.out.below HB5.out))
      have HXO := Lib.hid XO
      have HV5 := Lib.hid hO5
      have HM5 := Lib.hid hM5
      obtain ⟨f0, f1, f2, f3, f4, f5, f6⟩ := XA
      obtain ⟨g0, g1, g2, g3, g4, g5, g6⟩ := XO
      have HML := Lib.hid hmol
      clear e1 e2 hz41 b45 b35 hA5 hO5 hM5 hmo hmol hxO b4 cO1 HB3 HO3 HR3 HM3 HXA cEA vA HNA HNO
      go_upto_region 10 with fail
      simp only [← hW5]
      clear hW5
      go_wp2_with fail
      refine cE1.mono ?_
      rintro e w6 ⟨rfl, b6⟩
      have cE2 := cEO.out w6 _ _ (HV5.out.below b6) (vO.out w6 P cap (HM5.out.below b6))
      clear f0 f1 f2 f3 f4 f5 f6 g0 g1 g2 g3 g4 g5 g6
      obtain ⟨g0, g1, g2, g3, g4, g5, g6⟩ := HXO.out.below b6
      have H6 := Lib.hid b6
      clear cE1 b6
      go_wp2_with fail
      refine cE2.mono ?_
      rintro e w7 ⟨rfl, b7⟩
      have b57 := H6.out.trans (b7.mono H6.out.size)
      have HX7 := Lib.hid (HXO.out.below b57)
      have HB7 := Lib.hid (HB5.out.trans (b57.mono HB5.out.size))
      have HO7 := Lib.hid (jrow_same HO5.out (fun g' hg' => b57.block g' (HO5.out.lt g' hg').2))
      have HR7 := Lib.hid (MRow.go (Gos.below b57) _ _ HR5.out)
      have HMO7 := Lib.hid (MemsAt.mono (fun ad u hc => (Gos.below b57).cell ad u hc) _ _ _ HMO.out)
      have hz7 : w4.heap.size + 2 ≤ w7.heap.size := by
        have h1 := (HX7.out).1
        have h2 := vblock_lt h1
        show w4.heap.size + 1 < w7.heap.size
        exact h2
      have HZ7 := Lib.hid hz7
      have HZ4 := Lib.hid hz4
      generalize hyo : w4.heap.size + 1 = yo at *
      clear b7 b57 H6 cE2 HB5 HO5 HR5 HMO HXO HV5 HM5 cEO vO g0 g1 g2 g3 g4 g5 g6 hz7
      go_wp2
      go_loopw [59] (fun q wr => ∃ (i : Nat) (ys : List Value), i ≤ l.length ∧ q = .int .i64 (i : Int) ∧ wr.ownsRow w.heap.size 36 9 (.slice P l.length cap) l.length ys ∧ (∀ m, (∀ j, j < i → m ≠ j * 9) → ys[m]? = xs[m]?) ∧ Pj (fun k => (Value.slice P l.length cap).ownBlock = some k) w7 wr) (fun q _ => l.length - (RowKit.intOf q).toNat)
      case atStart => exact ⟨0, xs, Nat.zero_le _, rfl, HO7.out, fun m _ => rfl, Pj.refl _ _⟩
      case round =>
        obtain ⟨i, ys, hi, rfl, ho, hys, hP⟩ := hrel
        by_cases hlt : i < l.length
        · have hiz2 : (i : Int) < (l.length : Int) := by omega
          obtain ⟨g, cap', hv, hgB, hgl⟩ := HO7.out.form (by omega)
          obtain ⟨rfl, rfl⟩ : P = some ⟨g, 0, none⟩ ∧ cap = cap' := by injection hv with h1 _ h3; exact ⟨h1, h3⟩
          clear hv
          have hg3 : g < w3.heap.size := (HG.out g rfl).2
          have hwr : Below w.heap.size w wr := hP.below HB7.out (fun k hk => (HG.out k hk).1) HB7.out.size
          obtain ⟨v0, v1, v2, v3, v4, v5, v6, hcs, hvi⟩ := MRow.at _ _ HR7.out i (by rw [HMl.out]; exact hlt)
          obtain ⟨am, u0, u1, u2, u3, u4, u5, u6, rfl, ⟨m0, -⟩, -⟩ := MemsAt.get _ 0 HMO7.out i (by rw [HMl.out]; exact hlt)
          obtain ⟨a, p2, c2, q2, d2, rfl, ⟨a0, a1, a2, a3, a4, a5, a6⟩, hk⟩ := (HI.out.below hwr).cells i hlt
          simp only [List.getElem_map, mkM, MemD.key, MemD.v, MemD.at'] at hcs hvi m0
          obtain ⟨k, hkk⟩ : ∃ k, l[i] = k := ⟨_, rfl⟩
          have hmem : k ∈ l := by rw [← hkk]; exact List.getElem_mem _
          rw [hkk] at hk a0 a1 a2 a3 a4 a5 a6 hvi
          obtain ⟨p5, c5, q5, d5, he⟩ := val_form hvi
          simp only [Value.agg.injEq, Array.mk.injEq, List.cons.injEq, and_true] at he
          obtain ⟨rfl, rfl, rfl, rfl, rfl, rfl, rfl⟩ := he
          have hyc : ∀ j u, j < 9 → [.string s, .int .i64 k.kind, .bool k.b, .int .i64 k.n, .string k.s, .slice p5 k.items.length c5, .slice q5 k.mems.length d5, .int .i64 k.at', .int .i64 0][j]? = some u → ys[i * 9 + j]? = some u := fun j u hj hu => by
            rw [hys (i * 9 + j) (fun j' hj' => by omega)]
            exact hcs j u hu
          have hyz : ys.length = l.length * 9 := ho.1
          have kk : ∀ j u, j < 9 → [.string s, .int .i64 k.kind, .bool k.b, .int .i64 k.n, .string k.s, .slice p5 k.items.length c5, .slice q5 k.mems.length d5, .int .i64 k.at', .int .i64 0][j]? = some u → wr.cell? ⟨g, i * 9 + j, none⟩ = some u := fun j u hj hu => by
            have := World.ownsRow.cells ho (g := g) rfl (i * 9 + j) u (hyc j u hj hu)
            rw [jadd] at this
            exact this
          obtain ⟨cc, hcc⟩ : ∃ c, a.add (i * 7) = c := ⟨_, rfl⟩
          rw [hcc] at a0 a1 a2 a3 a4 a5 a6
          simp only [Addr.add, Nat.reduceEqDiff, ↓reduceIte] at a1 a2 a3 a4 a5 a6
          rw [Nat.zero_add] at m0
          obtain ⟨cm, hcm⟩ : ∃ c, am.add (i * 9) = c := ⟨_, rfl⟩
          rw [hcm] at m0
          obtain ⟨m0, hm1, hm2⟩ := sans_cell m0
          have hm3 := low_no hm1
          have hvx : ValIs wr.drew k (.agg #[.int .i64 k.kind, .bool k.b, .int .i64 k.n, .string k.s, .slice p5 k.items.length c5, .slice q5 k.mems.length d5, .int .i64 k.at']) := ValIs.mono (fun ad u hc => by
            obtain ⟨h1, h2, h3⟩ := sans_cell hc
            obtain ⟨h4, h5⟩ := lowx_no h2
            have := hP.block _ h3 h5
            show wr.cell? ad = some u
            rw [World.cell?_of_block this]
            exact h1) _ _ hvi
          have hkx : ValIs wr.drew k (.agg #[.int .i64 k.kind, .bool k.b, .int .i64 k.n, .string k.s, .slice p2 k.items.length c2, .slice q2 k.mems.length d2, .int .i64 k.at']) := hk.below (Below.refl _ _).drew
          have cE := jeq_self k (HCA.out k hmem) _ _ wr.drew hvx hkx
          have S0 : (wr.drew.cell? ⟨g, i * 9, none⟩ = some (.string s) ∧ wr.drew.cell? ⟨g, i * 9 + 1, none⟩ = some (.int .i64 k.kind) ∧ wr.drew.cell? ⟨g, i * 9 + 2, none⟩ = some (.bool k.b) ∧ wr.drew.cell? ⟨g, i * 9 + 3, none⟩ = some (.int .i64 k.n) ∧ wr.drew.cell? ⟨g, i * 9 + 4, none⟩ = some (.string k.s) ∧ wr.drew.cell? ⟨g, i * 9 + 5, none⟩ = some (.slice p5 k.items.length c5) ∧ wr.drew.cell? ⟨g, i * 9 + 6, none⟩ = some (.slice q5 k.mems.length d5) ∧ wr.drew.cell? ⟨g, i * 9 + 7, none⟩ = some (.int .i64 k.at') ∧ wr.drew.cell? ⟨g, i * 9 + 8, none⟩ = some (.int .i64 0) ∧ wr.drew.cell? cc = some (.int .i64 k.kind) ∧ wr.drew.cell? { block := cc.block, off := cc.off + 1 } = some (.bool k.b) ∧ wr.drew.cell? { block := cc.block, off := cc.off + 2 } = some (.int .i64 k.n) ∧ wr.drew.cell? { block := cc.block, off := cc.off + 3 } = some (.string k.s) ∧ wr.drew.cell? { block := cc.block, off := cc.off + 4 } = some (.slice p2 k.items.length c2) ∧ wr.drew.cell? { block := cc.block, off := cc.off + 5 } = some (.slice q2 k.mems.length d2) ∧ wr.drew.cell? { block := cc.block, off := cc.off + 6 } = some (.int .i64 k.at')) := ⟨kk 0 _ (by decide) rfl, kk 1 _ (by decide) rfl, kk 2 _ (by decide) rfl, kk 3 _ (by decide) rfl, kk 4 _ (by decide) rfl, kk 5 _ (by decide) rfl, kk 6 _ (by decide) rfl, kk 7 _ (by decide) rfl, kk 8 _ (by decide) rfl, a0, a1, a2, a3, a4, a5, a6⟩
          have hSB : ∀ x2 : World, Below wr.drew.heap.size wr.drew x2 → (x2.cell? ⟨g, i * 9, none⟩ = some (.string s) ∧ x2.cell? ⟨g, i * 9 + 1, none⟩ = some (.int .i64 k.kind) ∧ x2.cell? ⟨g, i * 9 + 2, none⟩ = some (.bool k.b) ∧ x2.cell? ⟨g, i * 9 + 3, none⟩ = some (.int .i64 k.n) ∧ x2.cell? ⟨g, i * 9 + 4, none⟩ = some (.string k.s) ∧ x2.cell? ⟨g, i * 9 + 5, none⟩ = some (.slice p5 k.items.length c5) ∧ x2.cell? ⟨g, i * 9 + 6, none⟩ = some (.slice q5 k.mems.length d5) ∧ x2.cell? ⟨g, i * 9 + 7, none⟩ = some (.int .i64 k.at') ∧ x2.cell? ⟨g, i * 9 + 8, none⟩ = some (.int .i64 0) ∧ x2.cell? cc = some (.int .i64 k.kind) ∧ x2.cell? { block := cc.block, off := cc.off + 1 } = some (.bool k.b) ∧ x2.cell? { block := cc.block, off := cc.off + 2 } = some (.int .i64 k.n) ∧ x2.cell? { block := cc.block, off := cc.off + 3 } = some (.string k.s) ∧ x2.cell? { block := cc.block, off := cc.off + 4 } = some (.slice p2 k.items.length c2) ∧ x2.cell? { block := cc.block, off := cc.off + 5 } = some (.slice q2 k.mems.length d2) ∧ x2.cell? { block := cc.block, off := cc.off + 6 } = some (.int .i64 k.at')) := fun x2 hb => by
            obtain ⟨z0, z1, z2, z3, z4, z5, z6, z7, z8, z9, z10, z11, z12, z13, z14, z15⟩ := S0
            exact ⟨(hb.cell (vblock_lt z0)).trans z0, (hb.cell (vblock_lt z1)).trans z1, (hb.cell (vblock_lt z2)).trans z2, (hb.cell (vblock_lt z3)).trans z3, (hb.cell (vblock_lt z4)).trans z4, (hb.cell (vblock_lt z5)).trans z5, (hb.cell (vblock_lt z6)).trans z6, (hb.cell (vblock_lt z7)).trans z7, (hb.cell (vblock_lt z8)).trans z8, (hb.cell (vblock_lt z9)).trans z9, (hb.cell (vblock_lt z10)).trans z10, (hb.cell (vblock_lt z11)).trans z11, (hb.cell (vblock_lt z12)).trans z12, (hb.cell (vblock_lt z13)).trans z13, (hb.cell (vblock_lt z14)).trans z14, (hb.cell (vblock_lt z15)).trans z15⟩
          have hPo : wr.cell? ⟨yo, 5, none⟩ = some (.slice (some am) nO.mems.length d4) := hP.cell HX7.out.2.2.2.2.2.1 (fun e => by
            have h1 := (HG.out _ e).2
            have h2 := HZ4.out
            have h3 : yo = w4.heap.size + 1 := hyo.symm
            show False
            simp only at h1
            omega)
          have hPm : wr.cell? cm = some (.string s) := hP.cell m0 (fun e => by
            have h1 := (HG.out _ e).2
            omega)
          have HS := Lib.hid ho
          have HYS := Lib.hid hys
          have HPJ := Lib.hid hP
          have HMX := Lib.hid hm3
          have HP5 := Lib.hid hPo
          have HPm := Lib.hid hPm
          have HSZ := Lib.hid hP.size
          clear ho hys hP hvi hk hcs m0 hm1 hm2 hm3 a0 a1 a2 a3 a4 a5 a6 hyc kk hvx hkx hPo hPm hmem hkk hwr hyz
          go_wp2
          go_region_held3 (fun w' => w'.cell? ⟨g, i * 9, none⟩ = some (.string s) ∧ w'.cell? ⟨g, i * 9 + 1, none⟩ = some (.int .i64 k.kind) ∧ w'.cell? ⟨g, i * 9 + 2, none⟩ = some (.bool k.b) ∧ w'.cell? ⟨g, i * 9 + 3, none⟩ = some (.int .i64 k.n) ∧ w'.cell? ⟨g, i * 9 + 4, none⟩ = some (.string k.s) ∧ w'.cell? ⟨g, i * 9 + 5, none⟩ = some (.slice p5 k.items.length c5) ∧ w'.cell? ⟨g, i * 9 + 6, none⟩ = some (.slice q5 k.mems.length d5) ∧ w'.cell? ⟨g, i * 9 + 7, none⟩ = some (.int .i64 k.at') ∧ w'.cell? ⟨g, i * 9 + 8, none⟩ = some (.int .i64 0) ∧ w'.cell? cc = some (.int .i64 k.kind) ∧ w'.cell? { block := cc.block, off := cc.off + 1 } = some (.bool k.b) ∧ w'.cell? { block := cc.block, off := cc.off + 2 } = some (.int .i64 k.n) ∧ w'.cell? { block := cc.block, off := cc.off + 3 } = some (.string k.s) ∧ w'.cell? { block := cc.block, off := cc.off + 4 } = some (.slice p2 k.items.length c2) ∧ w'.cell? { block := cc.block, off := cc.off + 5 } = some (.slice q2 k.mems.length d2) ∧ w'.cell? { block := cc.block, off := cc.off + 6 } = some (.int .i64 k.at')) (first | with_reducible exact S0 | with_reducible exact S8) (first | (go_at_call 15; with_reducible refine cE.mono ?_; rintro e w8 ⟨rfl, b8⟩; have S8 := hSB w8 b8))
          all_goals
            have b8' : Below wr.heap.size wr w8 := ((Below.refl wr.heap.size wr).drew).trans b8
            have ho8 := jrow_same HS.out (fun g' hg' => b8'.block g' (HS.out.lt g' hg').2)
            have hf8 := ho8.frozenAt (i * 9)
            obtain ⟨hst, hgr⟩ := ho8.stored (i * 9) (.string (s ++ ⟨#[120]⟩))
            have r0 := S8.1
            have hyg : yo ≠ g := by
              have h2 := HZ4.out
              have h3 : yo = w4.heap.size + 1 := hyo.symm
              omega
            have hcg : cm.block ≠ g := by
              have h2 := HMX.out
              omega
            have hlt5 : yo < wr.heap.size := vblock_lt HP5.out
            have hltm : cm.block < wr.heap.size := vblock_lt HPm.out
            have o5 : (w8.setCell ⟨g, i * 9, none⟩ (.string (s ++ ⟨#[120]⟩))).cell? ⟨yo, 5, none⟩ = some (.slice (some am) l.length d4) := by
              rw [World.cell?_of_block (Below.heap_setCell _ _ _ _ hyg), ← HML.out]
              exact (b8'.cell hlt5).trans HP5.out
            have om : (w8.setCell ⟨g, i * 9, none⟩ (.string (s ++ ⟨#[120]⟩))).cell? cm = some (.string s) := by
              rw [World.cell?_of_block (Below.heap_setCell _ _ _ _ hcg)]
              exact (b8'.cell hltm).trans HPm.out
            have hP9 := Lib.hid ((HPJ.out.more b8').grown hgr (fun k hk => .inl hk))
            have hST := Lib.hid hst
            have hsum : ¬ 9223372036854775807 < s.size + 1 := by omega
            clear S0 S8 hSB ho8 hgr hst HS HP5 HPm HPJ b8 b8'
            go_wp2
            go_roundw
            case rel => exact ⟨i + 1, _, by omega, by go_num, hST.out, fun m hm => by
              rw [List.getElem?_set_ne (fun e => hm i (by omega) e.symm)]
              exact HYS.out m (fun j hj => hm j (by omega)), hP9.out⟩
            case measure => simp [intOf]; omega
        · obtain rfl : i = l.length := by omega
          have hiz3 : ¬ (l.length : Int) < (l.length : Int) := by omega
          have hwr := hP.below HB7.out (fun k hk => (HG.out k hk).1) HB7.out.size
          have t8 := TabW_below HT.out hwr
          have cS := fun wx => jw_String s wx
          have cI := fun wx => jw_IntV n wx
          have cB := fun wx => jw_BoolV (decide (0 < n)) wx
          have cN := fun wx => jw_Null wx
          have eS := fun wx v h => jeq_self (.mk 3 false 0 s [] [] 0) (by rw [ValD.cnt, vcnts, mcnts]; decide) v _ wx h (leaf_val wx 3 0 false s)
          have eI := fun wx v h => jeq_self (.mk 2 false n ⟨#[]⟩ [] [] 0) (by rw [ValD.cnt, vcnts, mcnts]; decide) v _ wx h (leaf_val wx 2 n false ⟨#[]⟩)
          have eB := fun wx v h => jeq_self (.mk 1 (decide (0 < n)) 0 ⟨#[]⟩ [] [] 0) (by rw [ValD.cnt, vcnts, mcnts]; decide) v _ wx h (leaf_val wx 1 0 (decide (0 < n)) ⟨#[]⟩)
          have eN := fun wx v h => jeq_self (.mk 0 false 0 ⟨#[]⟩ [] [] 0) (by rw [ValD.cnt, vcnts, mcnts]; decide) v _ wx h (leaf_val wx 0 0 false ⟨#[]⟩)
          have HB := Lib.hid hwr
          clear ho hys hP hwr HO7 HR7 HMO7 HX7 HZ4 HZ7 HG HML HB7
          go_wp2_with fail
          refine (jw_alive _ t8).mono ?_
          rintro e w9 ⟨rfl, b9⟩
          replace HB := Lib.hid (HB.out.trans (b9.mono HB.out.size))
          clear b9 t8
          go_wp2_with fail
          refine (cS _).mono ?_
          rintro e w10 ⟨⟨x, rfl, hx⟩, b10⟩
          replace HB := Lib.hid (HB.out.trans (b10.mono HB.out.size))
          have cE := eS w10 x hx.full
          clear hx b10 cS eS
          go_wp2_with fail
          refine cE.mono ?_
          rintro e w11 ⟨rfl, b11⟩
          replace HB := Lib.hid (HB.out.trans (b11.mono HB.out.size))
          clear cE b11
          go_wp2_with fail
          refine (cI _).mono ?_
          rintro e w12 ⟨⟨x, rfl, hx⟩, b12⟩
          replace HB := Lib.hid (HB.out.trans (b12.mono HB.out.size))
          have cE := eI w12 x hx.full
          clear hx b12 cI eI
          go_wp2_with fail
          refine cE.mono ?_
          rintro e w13 ⟨rfl, b13⟩
          replace HB := Lib.hid (HB.out.trans (b13.mono HB.out.size))
          clear cE b13
          go_wp2_with fail
          refine (cB _).mono ?_
          rintro e w14 ⟨⟨x, rfl, hx⟩, b14⟩
          replace HB := Lib.hid (HB.out.trans (b14.mono HB.out.size))
          have cE := eB w14 x hx.full
          clear hx b14 cB eB
          go_wp2_with fail
          refine cE.mono ?_
          rintro e w15 ⟨rfl, b15⟩
          replace HB := Lib.hid (HB.out.trans (b15.mono HB.out.size))
          clear cE b15
          go_wp2_with fail
          refine (cN _).mono ?_
          rintro e w16 ⟨⟨x, rfl, hx⟩, b16⟩
          replace HB := Lib.hid (HB.out.trans (b16.mono HB.out.size))
          have cE := eN w16 x hx.full
          clear hx b16 cN eN
          go_wp2_with fail
          refine cE.mono ?_
          rintro e w17 ⟨rfl, b17⟩
          replace HB := Lib.hid (HB.out.trans (b17.mono HB.out.size))
          clear cE b17
          go_wp2
          go_ret
          exact ⟨rfl, HB.out⟩
set_option maxRecDepth 100000 in
set_option maxHeartbeats 64000000 in
theorem walk_JwBuilds (l : List ValD) (p : Option Addr) (c : Nat) (s : ByteArray) (n : Int) (w : World) (hT : TabW w) (hI : ItemsAt w p 0 l) (hl : l.length ≤ 140737488351232) (hW : VWFs l) :
    Calls Tryd.prog 4 #[.slice p l.length c, .string s, .int .i64 n] w fun e w' => e = .returned (.bool true) ∧ Below w.heap.size w w' := by
  by_cases hx : 20 < l.length
  · exact walk_JwBuildsA l p c s n w hT hx
  by_cases hy : 5000 < ValD.wgt (.mk 0 false 0 ⟨#[]⟩ l [] 0) 0
  · exact walk_JwBuildsB l p c s n w hT hI hl hW hx hy
  by_cases hs : 1000 < s.size
  · exact walk_JwBuildsC l p c s n w hT hI hl hW hx hy hs
  · exact walk_JwBuildsD l p c s n w hT hI hl hW hx hy hs
end Go.Proofs.YtdooadalkbghgaaDoor
end
