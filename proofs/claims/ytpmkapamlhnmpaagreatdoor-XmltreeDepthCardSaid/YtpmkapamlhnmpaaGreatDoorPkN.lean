/- Packed from the texts TrfD TrfE TrlD. -/
import Derived.Test.YtpmkapamlhnmpaaGreatDoorPkB
import Derived.Test.YtpmkapamlhnmpaaGreatDoorPkD
import Derived.Test.YtpmkapamlhnmpaaGreatDoorPkF
import Derived.Test.YtpmkapamlhnmpaaGreatDoorQRfcW
import Derived.Test.YtpmkapamlhnmpaaGreatDoorQShelf
import Derived.Test.YtpmkapamlhnmpaaGreatDoorQTokX
import Derived.Lib.Repeat
import Derived.Test.YtpmkapamlhnmpaaGreatDoorCards
import Derived.Test.YtpmkapamlhnmpaaGreatDoorTie
import Derived.ProofKit
import Derived.OpenShut
import Derived.SliceStrings
import Derived.SizedLaws
import Derived.Lay
import Derived.LaidOnce
import Derived.SevenTiedAt
section
namespace Go.Proofs.YtpmkapamlhnmpaaGreatDoor
open Go.RowKit
def opn : List UInt8 := [60, 97, 62]
def cls : List UInt8 := [60, 47, 97, 62]
def mty : List UInt8 := [60, 97, 47, 62]
def opT (j : Nat) : TokD := ⟨1, [97], [], false, [], ((3 * j : Nat) : Int)⟩
def IsEnd (u : TokD) : Prop := u.kind = 2 ∧ u.nm = [97]
theorem toks_opn : toksP (ofBytes opn) = ([opT 0], 3, 0) := trx_3
theorem toks_cls : toksP (ofBytes cls) = ([⟨2, [97], [], false, [], 0⟩], 4, 0) := by kernel_rfl
theorem toks_mty : toksP (ofBytes mty) = ([⟨1, [97], [], true, [], 0⟩], 4, 0) := by kernel_rfl
theorem toks_none : toksP (ofBytes []) = ([], 0, 0) := by kernel_rfl
theorem no_bom (c : UInt8) (l : List UInt8) (h : c ≠ 239) : hasP (ofBytes (c :: l)).data.toList 0 [239, 187, 191] = false := by
  rw [ofBytes_list]
  exact hasP_head [] c 239 [187, 191] l h
theorem no_bom_nil : hasP (ofBytes []).data.toList 0 [239, 187, 191] = false := by decide
theorem toks_pre (x : List UInt8) (T : TokD) (n : Int) (hx : toksP (ofBytes x) = ([T], n, 0)) (hT : T.kind ≠ 3) (t : List UInt8) (hb : hasP (ofBytes t).data.toList 0 [239, 187, 191] = false) (l : List TokD) (m : Int) (ht : toksP (ofBytes t) = (l, m, 0)) :
    toksP (ofBytes (x ++ t)) = (T :: l.map (shT x.length), (x.length : Int) + m, 0) := by
  rw [ofBytes_app]
  have h := toks_conc (ofBytes x) (ofBytes t) (by rw [hx]) (by rw [hx]; simp) (by rw [hx]; intro y hy; simp at hy; rw [← hy]; exact hT) hb
  rw [h, hx, ht, ofBytes_size]
  unfold shG
  rw [if_pos rfl]
  rfl
theorem bom_of (l : List UInt8) (h : l = [] ∨ ∃ r, l = 60 :: r) : hasP (ofBytes l).data.toList 0 [239, 187, 191] = false := by
  rcases h with rfl | ⟨r, rfl⟩
  · exact no_bom_nil
  · exact no_bom 60 r (by decide)
theorem shT_opT (d j : Nat) : shT (3 * d) (opT j) = opT (j + d) := by
  unfold shT opT
  simp only [List.map_nil, TokD.mk.injEq, true_and]
  omega
theorem rep_head (x : List UInt8) (k : Nat) (t r : List UInt8) (hx : x = 60 :: r) (ht : t = [] ∨ ∃ r, t = 60 :: r) : Lib.repeatL x k ++ t = [] ∨ ∃ r, Lib.repeatL x k ++ t = 60 :: r := by
  cases k with
  | zero => rw [Lib.repeatL, List.nil_append]; exact ht
  | succ k => rw [Lib.repeatL, hx]; exact .inr ⟨_, rfl⟩
theorem shT_shT (a b : Nat) (u : TokD) : shT a (shT b u) = shT (a + b) u := by
  unfold shT shA
  simp only [List.map_map, TokD.mk.injEq, true_and]
  refine ⟨List.map_congr_left fun x _ => ?_, by omega⟩
  simp only [Function.comp, AttrD.mk.injEq, true_and]
  omega
theorem shT_zero (u : TokD) : shT 0 u = u := by
  unfold shT shA
  cases u
  simp
theorem toks_open (t : List UInt8) (ht : t = [] ∨ ∃ r, t = 60 :: r) (l : List TokD) (m : Int) (h : toksP (ofBytes t) = (l, m, 0)) : ∀ k : Nat, toksP (ofBytes (Lib.repeatL opn k ++ t)) = ((List.range k).map opT ++ l.map (shT (3 * k)), ((3 * k : Nat) : Int) + m, 0)
  | 0 => by
    rw [Lib.repeatL, List.nil_append, h]
    have : l.map (shT (3 * 0)) = l := by
      rw [show 3 * 0 = 0 from rfl]
      conv => rhs; rw [← List.map_id l]
      exact List.map_congr_left fun u _ => shT_zero u
    rw [this]
    simp
  | k + 1 => by
    rw [Lib.repeatL, List.append_assoc]
    rw [toks_pre opn (opT 0) 3 toks_opn (by decide) _ (bom_of _ (rep_head opn k t _ rfl ht)) _ _ (toks_open t ht l m h k)]
    rw [List.range_succ_eq_map, List.map_append, List.map_cons, List.map_map, List.map_map, List.map_map]
    show (opT 0 :: _, _, _) = (opT 0 :: _, _, _)
    have e1 : (List.range k).map (shT opn.length ∘ opT) = (List.range k).map (opT ∘ Nat.succ) := List.map_congr_left fun j _ => by
      show shT (3 * 1) (opT j) = opT (j + 1)
      exact shT_opT 1 j
    have e2 : l.map (shT opn.length ∘ shT (3 * k)) = l.map (shT (3 * (k + 1))) := List.map_congr_left fun u _ => by
      show shT 3 (shT (3 * k) u) = _
      rw [shT_shT]
      congr 1
      omega
    rw [e1, e2]
    simp only [Prod.mk.injEq, and_true]
    refine ⟨rfl, ?_⟩
    show ((3 : Nat) : Int) + _ = _
    omega
theorem toks_shut : ∀ k : Nat, ∃ (l : List TokD) (n : Int), toksP (ofBytes (Lib.repeatL cls k)) = (l, n, 0) ∧ l.length = k ∧ ∀ u ∈ l, IsEnd u
  | 0 => ⟨[], 0, toks_none, rfl, fun u h => by cases h⟩
  | k + 1 => by
    obtain ⟨l, n, h, hl, he⟩ := toks_shut k
    refine ⟨⟨2, [97], [], false, [], 0⟩ :: l.map (shT cls.length), (cls.length : Int) + n, ?_, ?_, ?_⟩
    · rw [Lib.repeatL]
      exact toks_pre cls _ 4 toks_cls (by decide) _ (bom_of _ (by have := rep_head cls k [] _ rfl (.inl rfl); rwa [List.append_nil] at this)) l n h
    · simp [hl]
    · intro u hu
      rcases List.mem_cons.1 hu with rfl | hu
      · exact ⟨rfl, rfl⟩
      · obtain ⟨x, hx, rfl⟩ := List.mem_map.1 hu
        exact he x hx
def stM : Nat → Mac
  | 0 => mac0
  | j + 1 => ⟨elemN (opT j) [], (stM j).top :: (stM j).up, [], 0⟩
theorem stM_up : ∀ j, (stM j).up.length = j
  | 0 => rfl
  | j + 1 => by show ((stM j).top :: (stM j).up).length = _; rw [List.length_cons, stM_up j]
theorem stM_data : ∀ j, (stM j).data = [] ∧ (stM j).dat = 0
  | 0 => ⟨rfl, rfl⟩
  | _ + 1 => ⟨rfl, rfl⟩
theorem stM_flush (j : Nat) : flushM (stM j) = stM j := by unfold flushM; rw [if_pos (stM_data j).1]
theorem stM_room (j : Nat) : ¬ ((stM j).up = [] ∧ (stM j).top.kids ≠ []) := by
  cases j with
  | zero => exact fun h => h.2 rfl
  | succ j => exact fun h => by have := h.1; cases this
theorem stM_add (j : Nat) (hj : j + 1 ≤ 100) : addM (stM j) (opT j) = (stM (j + 1), 0) := by
  have hu := stM_up j
  unfold addM
  rw [if_pos (show (opT j).kind = 1 from rfl), startM, if_neg (stM_room j), if_neg (by omega), if_neg (show ¬ (opT j).em = true from by show ¬ false = true; decide), stM_flush]
  have := stM_data j
  show (({ stM j with top := elemN (opT j) [], up := (stM j).top :: (stM j).up } : Mac), (0 : Int)) = (⟨elemN (opT j) [], (stM j).top :: (stM j).up, [], 0⟩, 0)
  rw [← this.1, ← this.2]
theorem stM_deep (j : Nat) (hj : ¬ j + 1 ≤ 100) (t : TokD) (hk : t.kind = 1) : addM (stM j) t = (stM j, 9) := by
  have hu := stM_up j
  unfold addM
  rw [if_pos hk, startM, if_neg (stM_room j), if_pos (by omega)]
theorem run_open (rest : List TokD) : ∀ (n j : Nat), j + n ≤ 100 → runM (stM j) ((List.range n).map (fun i => opT (j + i)) ++ rest) = runM (stM (j + n)) rest
  | 0, j, _ => rfl
  | n + 1, j, h => by
    rw [List.range_succ_eq_map, List.map_cons, List.cons_append, runM, show j + 0 = j from rfl, stM_add j (by omega), if_neg (fun h => h rfl), List.map_map]
    have e : (List.range n).map ((fun i => opT (j + i)) ∘ Nat.succ) = (List.range n).map (fun i => opT (j + 1 + i)) := List.map_congr_left fun i _ => by
      show opT (j + (i + 1)) = _
      congr 1
      omega
    rw [e, run_open rest n (j + 1) (by omega)]
    congr 2
    omega
def dnM (j : Nat) (c : NodeD) (dt : Int) : Mac := ⟨addKid c (stM j).top, (stM j).up, [], dt⟩
theorem addKid_nm (c n : NodeD) : (addKid c n).nm = n.nm := by cases n; rfl
theorem addKid_one (c : NodeD) (t : TokD) : (addKid c (elemN t [])).depth = c.depth + 1 := by
  rw [depth_eq, addKid_kids, addKid_is', if_neg (show ¬ (elemN t []).kind = 1 from by show ¬ (0 : Int) = 1; decide)]
  show depths ([] ++ [c]) 0 + 1 = _
  rw [List.nil_append, depths, depths, Nat.max_eq_right (Nat.zero_le _)]
theorem dnM_end (j : Nat) (c : NodeD) (dt : Int) (u : TokD) (hu : IsEnd u) : addM (dnM (j + 1) c dt) u = (dnM j (addKid c (elemN (opT j) [])) dt, 0) := by
  unfold addM
  rw [if_neg (by rw [hu.1]; decide), if_pos hu.1, endM, if_neg (by intro h; cases h), if_neg]
  · rfl
  · show ¬ (addKid c (stM (j + 1)).top).nm ≠ _
    rw [addKid_nm, hu.2]
    exact fun h => h rfl
theorem stM_end (j : Nat) (u : TokD) (hu : IsEnd u) : addM (stM (j + 1)) u = (dnM j (elemN (opT j) []) 0, 0) := by
  unfold addM
  rw [if_neg (by rw [hu.1]; decide), if_pos hu.1, endM, if_neg (by intro h; cases h), if_neg]
  · rw [stM_flush]
    rfl
  · show ¬ (elemN (opT j) []).nm ≠ _
    rw [hu.2]
    exact fun h => h rfl
theorem run_shut : ∀ (l : List TokD) (j : Nat) (c : NodeD) (dt : Int), l.length = j → (∀ u ∈ l, IsEnd u) → ∃ (c' : NodeD) (dt' : Int), runM (dnM j c dt) l = (dnM 0 c' dt', 0, 0) ∧ c'.depth = c.depth + j
  | [], 0, c, dt, _, _ => ⟨c, dt, rfl, rfl⟩
  | [], j + 1, _, _, h, _ => by cases h
  | u :: l, 0, _, _, h, _ => by cases h
  | u :: l, j + 1, c, dt, h, he => by
    obtain ⟨c', dt', h1, h2⟩ := run_shut l j (addKid c (elemN (opT j) [])) dt (by simpa using h) (fun x hx => he x (List.mem_cons_of_mem _ hx))
    refine ⟨c', dt', ?_, ?_⟩
    · rw [runM, dnM_end j c dt u (he u (List.mem_cons_self ..)), if_neg (fun h => h rfl)]
      exact h1
    · rw [h2, addKid_one]
      omega
theorem parse_of (s : ByteArray) (l : List TokD) (n : Int) (h : toksP s = (l, n, 0)) : parseP s = if (runM mac0 l).2.2 ≠ 0 then (zeroN, (runM mac0 l).2.1, (runM mac0 l).2.2)
    else match (runM mac0 l).1.up, (runM mac0 l).1.top.kids with
      | [], k :: _ => (k, (s.size : Int), 0)
      | _, _ => (zeroN, (s.size : Int), 8) := by
  unfold parseP
  rw [h, if_neg (fun h => h rfl)]
  rfl
theorem parse_dn (s : ByteArray) (l : List TokD) (n : Int) (h : toksP s = (l, n, 0)) (c : NodeD) (dt : Int) (hr : runM mac0 l = (dnM 0 c dt, 0, 0)) : parseP s = (c, (s.size : Int), 0) := by
  rw [parse_of s l n h, hr, if_neg (fun h => h rfl)]
  rfl
theorem shut_shift (d : Nat) (l : List TokD) (h : ∀ u ∈ l, IsEnd u) : ∀ u ∈ l.map (shT d), IsEnd u := by
  intro u hu
  obtain ⟨x, hx, rfl⟩ := List.mem_map.1 hu
  exact h x hx
theorem parse_nest (k : Nat) (h1 : 1 ≤ k) (h2 : k ≤ 100) : ∃ c : NodeD, c.depth = k ∧ ∃ n, parseP (ofBytes (Lib.repeatL opn k ++ Lib.repeatL cls k)) = (c, n, 0) := by
  obtain ⟨k, rfl⟩ : ∃ j, k = j + 1 := ⟨k - 1, by omega⟩
  obtain ⟨l, n, hl, hll, hle⟩ := toks_shut (k + 1)
  have ht := toks_open (Lib.repeatL cls (k + 1)) (.inr ⟨_, rfl⟩) l n hl (k + 1)
  match l, hll, hle, ht with
  | u :: r, hll, hle, ht =>
    have hro := run_open ((u :: r).map (shT (3 * (k + 1)))) (k + 1) 0 (by omega)
    have e0 : (List.range (k + 1)).map (fun i => opT (0 + i)) = (List.range (k + 1)).map opT := List.map_congr_left fun i _ => by rw [Nat.zero_add]
    rw [e0, Nat.zero_add] at hro
    have hes := shut_shift (3 * (k + 1)) _ hle
    rw [List.map_cons, runM, stM_end k _ (hes _ (by simp)), if_neg (fun h => h rfl)] at hro
    obtain ⟨c', dt', h5, h6⟩ := run_shut (r.map (shT (3 * (k + 1)))) k (elemN (opT k) []) 0 (by simpa using hll) (fun x hx => hes x (by rw [List.map_cons]; exact List.mem_cons_of_mem _ hx))
    refine ⟨c', ?_, _, parse_dn _ _ _ ht c' dt' ?_⟩
    · rw [h6, elemN, NodeD.depth]
      show depths [] 0 + 1 + k = k + 1
      rw [depths]
      omega
    · exact hro.trans h5
theorem parse_nest0 (k : Nat) (h2 : k + 1 ≤ 100) : ∃ c : NodeD, c.depth = k + 1 ∧ ∃ n, parseP (ofBytes (Lib.repeatL opn k ++ (mty ++ Lib.repeatL cls k))) = (c, n, 0) := by
  obtain ⟨l, n, hl, hll, hle⟩ := toks_shut k
  have hm := toks_pre mty _ 4 toks_mty (by decide) (Lib.repeatL cls k) (bom_of _ (by have := rep_head cls k [] _ rfl (.inl rfl); rwa [List.append_nil] at this)) l n hl
  have ht := toks_open (mty ++ Lib.repeatL cls k) (.inr ⟨_, rfl⟩) _ _ hm k
  have hro := run_open ((⟨1, [97], [], true, [], 0⟩ :: l.map (shT mty.length)).map (shT (3 * k))) k 0 (by omega)
  have e0 : (List.range k).map (fun i => opT (0 + i)) = (List.range k).map opT := List.map_congr_left fun i _ => by rw [Nat.zero_add]
  rw [e0, Nat.zero_add] at hro
  have hes := shut_shift (3 * k) _ (shut_shift mty.length _ hle)
  have hu := stM_up k
  have hadd : addM (stM k) (shT (3 * k) ⟨1, [97], [], true, [], 0⟩) = (dnM k (elemN (shT (3 * k) ⟨1, [97], [], true, [], 0⟩) []) 0, 0) := by
    have hd := stM_data k
    unfold addM
    rw [if_pos (show (shT (3 * k) ⟨1, [97], [], true, [], 0⟩ : TokD).kind = 1 from rfl), startM, if_neg (stM_room k), if_neg (by omega), if_pos (show (shT (3 * k) ⟨1, [97], [], true, [], 0⟩ : TokD).em = true from rfl), stM_flush]
    show ((⟨addKid (elemN (shT (3 * k) ⟨1, [97], [], true, [], 0⟩) []) (stM k).top, (stM k).up, (stM k).data, (stM k).dat⟩ : Mac), (0 : Int)) = _
    rw [hd.1, hd.2]
    rfl
  rw [List.map_cons, runM, hadd, if_neg (fun h => h rfl)] at hro
  obtain ⟨c', dt', h5, h6⟩ := run_shut ((l.map (shT mty.length)).map (shT (3 * k))) k (elemN (shT (3 * k) ⟨1, [97], [], true, [], 0⟩) []) 0 (by simpa using hll) hes
  refine ⟨c', ?_, _, parse_dn _ _ _ ht c' dt' ?_⟩
  · rw [h6, elemN, NodeD.depth]
    show depths [] 0 + 1 + k = k + 1
    rw [depths]
    omega
  · exact hro.trans h5
theorem parse_deep (s : ByteArray) (l : List TokD) (n : Int) (h : toksP s = (l, n, 0)) (t : TokD) (r : List TokD) (hl : l = (List.range 100).map opT ++ t :: r) (hk : t.kind = 1) : parseP s = (zeroN, t.at', 9) := by
  have hro := run_open (t :: r) 100 0 (by omega)
  have e0 : (List.range 100).map (fun i => opT (0 + i)) = (List.range 100).map opT := List.map_congr_left fun i _ => by rw [Nat.zero_add]
  rw [e0, show 0 + 100 = 100 from rfl, runM, stM_deep 100 (by decide) t hk, if_pos (show (9 : Int) ≠ 0 by decide), ← hl] at hro
  rw [parse_of s l n h, show runM mac0 l = _ from hro, if_pos (show (9 : Int) ≠ 0 by decide)]
theorem range_split (k : Nat) (h : 101 ≤ k) : ∃ r, (List.range k).map opT = (List.range 100).map opT ++ opT 100 :: r := by
  obtain ⟨d, rfl⟩ : ∃ d, k = 100 + (d + 1) := ⟨k - 101, by omega⟩
  exact ⟨((List.range d).map Nat.succ).map (fun x => opT (100 + x)), by rw [List.range_add, List.map_append, show List.range (d + 1) = 0 :: (List.range d).map Nat.succ from List.range_succ_eq_map, List.map_cons, List.map_cons, List.map_map, List.map_map]; simp only [List.map_map]; rfl⟩
theorem parse_nest_deep (k : Nat) (h : 101 ≤ k) : parseP (ofBytes (Lib.repeatL opn k ++ Lib.repeatL cls k)) = (zeroN, 300, 9) := by
  obtain ⟨l, n, hl, -, -⟩ := toks_shut k
  have ht := toks_open (Lib.repeatL cls k) (by have := rep_head cls k [] _ rfl (.inl rfl); rwa [List.append_nil] at this) l n hl k
  obtain ⟨r, hr⟩ := range_split k h
  exact parse_deep _ _ _ ht (opT 100) (r ++ l.map (shT (3 * k))) (by rw [hr, List.append_assoc]; rfl) rfl
theorem parse_nest0_deep (k : Nat) (h : 100 ≤ k) : parseP (ofBytes (Lib.repeatL opn k ++ (mty ++ Lib.repeatL cls k))) = (zeroN, 300, 9) := by
  obtain ⟨l, n, hl, -, -⟩ := toks_shut k
  have hm := toks_pre mty _ 4 toks_mty (by decide) (Lib.repeatL cls k) (bom_of _ (by have := rep_head cls k [] _ rfl (.inl rfl); rwa [List.append_nil] at this)) l n hl
  have ht := toks_open (mty ++ Lib.repeatL cls k) (.inr ⟨_, rfl⟩) _ _ hm k
  by_cases h1 : k = 100
  · subst h1
    exact parse_deep _ _ _ ht _ _ rfl rfl
  · obtain ⟨r, hr⟩ := range_split k (by omega)
    exact parse_deep _ _ _ ht (opT 100) (r ++ _) (by rw [hr, List.append_assoc]; rfl) rfl
end Go.Proofs.YtpmkapamlhnmpaaGreatDoor
end
section
namespace Go.Proofs.YtpmkapamlhnmpaaGreatDoor
open Go.RowKit
theorem rep_bytes (x : List UInt8) (k : Nat) : (⟨(Lib.repeatL x k).toArray⟩ : ByteArray) = ofBytes (Lib.repeatL x k) := rfl
set_option maxRecDepth 100000 in
set_option maxHeartbeats 8000000 in
theorem walk_TreDepth (many : Int) (em : Bool) (w : World) (h0 : 0 ≤ many) (h1 : many ≤ 255) (hT : TokT w) : Calls Tryz.prog 6 #[.int .u8 many, .bool em] w fun e w' => e = .returned (.bool true) ∧ Below w.heap.size w w' := by
  obtain ⟨k, hk⟩ : ∃ k : Nat, many % 120 = (k : Int) := ⟨(many % 120).toNat, by omega⟩
  have hk2 : k ≤ 119 := by omega
  have cA : ∀ wx, TokT wx → _ := fun wx ht => tre_alive wx ht
  have cO := fun wx => Tryz.strings_Repeat ⟨#[60, 97, 62]⟩ (k + 1) wx (by omega) (by show 3 * (k + 1) ≤ _; omega)
  have cC := fun wx => Tryz.strings_Repeat ⟨#[60, 47, 97, 62]⟩ (k + 1) wx (by omega) (by show 4 * (k + 1) ≤ _; omega)
  rw [show (⟨#[60, 97, 62]⟩ : ByteArray).data.toList = opn from rfl, rep_bytes, show ((k + 1 : Nat) : Int) = (k : Int) + 1 by omega] at cO
  rw [show (⟨#[60, 47, 97, 62]⟩ : ByteArray).data.toList = cls from rfl, rep_bytes, show ((k + 1 : Nat) : Int) = (k : Int) + 1 by omega] at cC
  have hlo : ∀ j, (Lib.repeatL opn j).length = j * 3 := fun j => by rw [Lib.repeatL_length]; rfl
  have hlc : ∀ j, (Lib.repeatL cls j).length = j * 4 := fun j => by rw [Lib.repeatL_length]; rfl
  have so1 : (ofBytes (Lib.repeatL opn (k + 1))).size = (k + 1) * 3 := by rw [ofBytes_size, hlo]
  have sc1 : (ofBytes (Lib.repeatL cls (k + 1))).size = (k + 1) * 4 := by rw [ofBytes_size, hlc]
  have hs1 : ¬ 9223372036854775807 < (ofBytes (Lib.repeatL opn (k + 1))).size + (ofBytes (Lib.repeatL cls (k + 1))).size := by omega
  cases em with
  | false =>
    have hsz : (ofBytes (Lib.repeatL opn (k + 1) ++ Lib.repeatL cls (k + 1))).size ≤ 10000 := by rw [ofBytes_size, List.length_append, hlo, hlc]; omega
    have c1 := fun wx ht => xt_Parse (ofBytes (Lib.repeatL opn (k + 1) ++ Lib.repeatL cls (k + 1))) wx hsz ht
    have hsm := parse_small (ofBytes (Lib.repeatL opn (k + 1) ++ Lib.repeatL cls (k + 1))) (by rw [ofBytes_size, List.length_append, hlo, hlc]; omega)
    have hg := fun h => parse_nest (k + 1) (by omega) h
    have hd := fun h => parse_nest_deep (k + 1) h
    rw [ofBytes_app] at c1 hsm hg hd
    clear hsz hlo hlc so1 sc1
    generalize ofBytes (Lib.repeatL opn (k + 1)) = S1 at *
    generalize ofBytes (Lib.repeatL cls (k + 1)) = S2 at *
    go_enter Tryz.func6, Tryz.ntmps6
    go_wp2_with fail
    refine (cO _).mono ?_
    rintro e w1 ⟨rfl, b1⟩
    have t1 := TokT_below hT b1
    go_wp2_with fail
    refine (cC _).mono ?_
    rintro e w2 ⟨rfl, b2⟩
    have t2 := TokT_below t1 b2
    have B2 := b1.trans (b2.mono b1.size)
    clear cO cC b1 b2 t1 hT
    by_cases hk3 : k + 1 ≤ 100
    · obtain ⟨c, hcd, n, hP⟩ := hg hk3
      have hk4 : ¬ (100 : Int) < (k : Int) + 1 := by omega
      rw [hP] at c1 hsm
      simp only at hsm
      have cD := fun wx v h => xt_Depth c.cnt c v wx (Nat.le_refl _) (by omega) h
      rw [hcd, show ((k + 1 : Nat) : Int) = (k : Int) + 1 by omega] at cD
      clear hg hd hP hsm hcd
      go_wp2_with fail
      refine (c1 _ t2).mono ?_
      rintro e w3 ⟨v1, rfl, hn1, b3⟩
      obtain ⟨pa, ca, pk, ck, rfl⟩ := node_form hn1
      simp only at hn1
      have b3' := then_box b3 (.cells #[.int .i64 c.kind, .string c.sp, .string c.nm, .slice pa c.al.length ca, .slice pk c.kids.length ck, .string c.tx, .int .i64 c.at'] 26)
      have t3 := TokT_below t2 b3'
      have C1 : Blk (w3.alloc (.cells #[.int .i64 c.kind, .string c.sp, .string c.nm, .slice pa c.al.length ca, .slice pk c.kids.length ck, .string c.tx, .int .i64 c.at'] 26)) w3.heap.size _ _ := Blk.new w3 #[.int .i64 c.kind, .string c.sp, .string c.nm, .slice pa c.al.length ca, .slice pk c.kids.length ck, .string c.tx, .int .i64 c.at'] 26
      have hn2 := NodeIs.below ((Below.refl w3.heap.size w3).alloc (Nat.le_refl _) (.cells #[.int .i64 c.kind, .string c.sp, .string c.nm, .slice pa c.al.length ca, .slice pk c.kids.length ck, .string c.tx, .int .i64 c.at'] 26)) _ _ hn1
      clear hn1 c1
      go_wp2_with fail
      refine (cA _ t3).mono ?_
      rintro e w4 ⟨rfl, b4⟩
      have r1 := NodeIs.below b4 _ _ hn2
      have C2 := C1.more b4
      have f0 := C2.cell 0
      have f1 := C2.cell 1
      have f2 := C2.cell 2
      have f3 := C2.cell 3
      have f4 := C2.cell 4
      have f5 := C2.cell 5
      have f6 := C2.cell 6
      simp only [List.getElem?_toArray, List.getElem?_cons_succ, List.getElem?_cons_zero] at f0 f1 f2 f3 f4 f5 f6
      have cD' := cD _ _ r1
      have HB := Lib.hid ((B2.trans (b3'.mono B2.size)).trans (b4.mono (Nat.le_trans B2.size b3'.size)))
      clear hn2 C1 C2 r1 b3 b3' b4 t3 cA cD B2 t2
      go_wp2_with fail
      refine cD'.mono ?_
      rintro e w5 ⟨rfl, b5⟩
      go_wp2
      go_ret
      exact ⟨by simp, HB.out.trans (b5.mono HB.out.size)⟩
    · have hP := hd (by omega)
      have hk4 : (100 : Int) < (k : Int) + 1 := by omega
      rw [hP] at c1
      clear hg hd hP hsm
      go_wp2_with fail
      refine (c1 _ t2).mono ?_
      rintro e w3 ⟨v1, rfl, hn1, b3⟩
      obtain ⟨pa, ca, pk, ck, rfl⟩ := zeroN_val hn1
      have b3' := then_box b3 (.cells #[.int .i64 0, .string ⟨#[]⟩, .string ⟨#[]⟩, .slice pa 0 ca, .slice pk 0 ck, .string ⟨#[]⟩, .int .i64 0] 26)
      have t3 := TokT_below t2 b3'
      clear hn1 c1 b3
      go_wp2_with fail
      refine (cA _ t3).mono ?_
      rintro e w4 ⟨rfl, b4⟩
      go_wp2
      go_ret
      exact ⟨by simp, (B2.trans (b3'.mono B2.size)).trans (b4.mono (Nat.le_trans B2.size b3'.size))⟩
  | true =>
    have cO0 := fun wx => Tryz.strings_Repeat ⟨#[60, 97, 62]⟩ k wx (by omega) (by show 3 * k ≤ _; omega)
    have cC0 := fun wx => Tryz.strings_Repeat ⟨#[60, 47, 97, 62]⟩ k wx (by omega) (by show 4 * k ≤ _; omega)
    rw [show (⟨#[60, 97, 62]⟩ : ByteArray).data.toList = opn from rfl, rep_bytes] at cO0
    rw [show (⟨#[60, 47, 97, 62]⟩ : ByteArray).data.toList = cls from rfl, rep_bytes] at cC0
    have hsz : (ofBytes (Lib.repeatL opn k ++ (mty ++ Lib.repeatL cls k))).size ≤ 10000 := by rw [ofBytes_size, List.length_append, List.length_append, hlo, hlc]; show k * 3 + (4 + k * 4) ≤ _; omega
    have c1 := fun wx ht => xt_Parse (ofBytes (Lib.repeatL opn k ++ (mty ++ Lib.repeatL cls k))) wx hsz ht
    have hsm := parse_small (ofBytes (Lib.repeatL opn k ++ (mty ++ Lib.repeatL cls k))) (by rw [ofBytes_size, List.length_append, List.length_append, hlo, hlc]; show k * 3 + (4 + k * 4) ≤ _; omega)
    have hg := fun h => parse_nest0 k h
    have hd := fun h => parse_nest0_deep k h
    rw [← List.append_assoc, ofBytes_app, ofBytes_app, show ofBytes mty = (⟨#[60, 97, 47, 62]⟩ : ByteArray) from rfl] at c1 hsm hg hd
    have so0 : (ofBytes (Lib.repeatL opn k)).size = k * 3 := by rw [ofBytes_size, hlo]
    have sc0 : (ofBytes (Lib.repeatL cls k)).size = k * 4 := by rw [ofBytes_size, hlc]
    have hs2 : ¬ 9223372036854775807 < (ofBytes (Lib.repeatL opn k)).size + 4 := by omega
    have hs3 : ¬ 9223372036854775807 < (ofBytes (Lib.repeatL opn k)).size + 4 + (ofBytes (Lib.repeatL cls k)).size := by omega
    clear hsz hlo hlc so1 sc1 so0 sc0
    generalize ofBytes (Lib.repeatL opn (k + 1)) = S1 at *
    generalize ofBytes (Lib.repeatL cls (k + 1)) = S2 at *
    generalize ofBytes (Lib.repeatL opn k) = S3 at *
    generalize ofBytes (Lib.repeatL cls k) = S4 at *
    go_enter Tryz.func6, Tryz.ntmps6
    go_wp2_with fail
    refine (cO _).mono ?_
    rintro e w1 ⟨rfl, b1⟩
    have t1 := TokT_below hT b1
    go_wp2_with fail
    refine (cC _).mono ?_
    rintro e w1b ⟨rfl, b1b⟩
    have t1b := TokT_below t1 b1b
    have B1 := b1.trans (b1b.mono b1.size)
    clear cO cC b1 b1b t1 hT
    go_wp2_with fail
    refine (cO0 _).mono ?_
    rintro e w2a ⟨rfl, b2a⟩
    have t2a := TokT_below t1b b2a
    go_wp2_with fail
    refine (cC0 _).mono ?_
    rintro e w2 ⟨rfl, b2⟩
    have t2 := TokT_below t2a b2
    have B2 := (B1.trans (b2a.mono B1.size)).trans (b2.mono (Nat.le_trans B1.size b2a.size))
    clear cO0 cC0 b2a b2 t1b t2a B1
    by_cases hk3 : k + 1 ≤ 100
    · obtain ⟨c, hcd, n, hP⟩ := hg hk3
      have hk4 : ¬ (100 : Int) < (k : Int) + 1 := by omega
      rw [hP] at c1 hsm
      simp only at hsm
      have cD := fun wx v h => xt_Depth c.cnt c v wx (Nat.le_refl _) (by omega) h
      rw [hcd, show ((k + 1 : Nat) : Int) = (k : Int) + 1 by omega] at cD
      clear hg hd hP hsm hcd
      go_wp2_with fail
      refine (c1 _ t2).mono ?_
      rintro e w3 ⟨v1, rfl, hn1, b3⟩
      obtain ⟨pa, ca, pk, ck, rfl⟩ := node_form hn1
      simp only at hn1
      have b3' := then_box b3 (.cells #[.int .i64 c.kind, .string c.sp, .string c.nm, .slice pa c.al.length ca, .slice pk c.kids.length ck, .string c.tx, .int .i64 c.at'] 26)
      have t3 := TokT_below t2 b3'
      have C1 : Blk (w3.alloc (.cells #[.int .i64 c.kind, .string c.sp, .string c.nm, .slice pa c.al.length ca, .slice pk c.kids.length ck, .string c.tx, .int .i64 c.at'] 26)) w3.heap.size _ _ := Blk.new w3 #[.int .i64 c.kind, .string c.sp, .string c.nm, .slice pa c.al.length ca, .slice pk c.kids.length ck, .string c.tx, .int .i64 c.at'] 26
      have hn2 := NodeIs.below ((Below.refl w3.heap.size w3).alloc (Nat.le_refl _) (.cells #[.int .i64 c.kind, .string c.sp, .string c.nm, .slice pa c.al.length ca, .slice pk c.kids.length ck, .string c.tx, .int .i64 c.at'] 26)) _ _ hn1
      clear hn1 c1
      go_wp2_with fail
      refine (cA _ t3).mono ?_
      rintro e w4 ⟨rfl, b4⟩
      have r1 := NodeIs.below b4 _ _ hn2
      have C2 := C1.more b4
      have f0 := C2.cell 0
      have f1 := C2.cell 1
      have f2 := C2.cell 2
      have f3 := C2.cell 3
      have f4 := C2.cell 4
      have f5 := C2.cell 5
      have f6 := C2.cell 6
      simp only [List.getElem?_toArray, List.getElem?_cons_succ, List.getElem?_cons_zero] at f0 f1 f2 f3 f4 f5 f6
      have cD' := cD _ _ r1
      have HB := Lib.hid ((B2.trans (b3'.mono B2.size)).trans (b4.mono (Nat.le_trans B2.size b3'.size)))
      clear hn2 C1 C2 r1 b3 b3' b4 t3 cA cD B2 t2
      go_wp2_with fail
      refine cD'.mono ?_
      rintro e w5 ⟨rfl, b5⟩
      go_wp2
      go_ret
      exact ⟨by simp, HB.out.trans (b5.mono HB.out.size)⟩
    · have hP := hd (by omega)
      have hk4 : (100 : Int) < (k : Int) + 1 := by omega
      rw [hP] at c1
      clear hg hd hP hsm
      go_wp2_with fail
      refine (c1 _ t2).mono ?_
      rintro e w3 ⟨v1, rfl, hn1, b3⟩
      obtain ⟨pa, ca, pk, ck, rfl⟩ := zeroN_val hn1
      have b3' := then_box b3 (.cells #[.int .i64 0, .string ⟨#[]⟩, .string ⟨#[]⟩, .slice pa 0 ca, .slice pk 0 ck, .string ⟨#[]⟩, .int .i64 0] 26)
      have t3 := TokT_below t2 b3'
      clear hn1 c1 b3
      go_wp2_with fail
      refine (cA _ t3).mono ?_
      rintro e w4 ⟨rfl, b4⟩
      go_wp2
      go_ret
      exact ⟨by simp, (B2.trans (b3'.mono B2.size)).trans (b4.mono (Nat.le_trans B2.size b3'.size))⟩
end Go.Proofs.YtpmkapamlhnmpaaGreatDoor
end
section
namespace Go.Proofs.YtpmkapamlhnmpaaGreatDoor
open Go.RowKit Go.Lib Go.ChangeShapes Go.WideShapes Go.ChangeAt
open Go.ChangeMaps (open_string shut_string)
theorem ownTD : ownKnob Tryz.prog.godebug = none := by kernel_rfl
set_option maxRecDepth 100000 in
theorem lifted_XmltreeDepth (os : Os) (started : os.Started) (H : Type) (enc : TypeId × Value → H) :
    ReturnsInHanded {} Tryz.checked os 6 .any (fun w args => (Rows.xmltreeDepthSpec.pre enc Tryz.prog Tryz.f6 [] false w args ∧ laidMetH Tryz.prog tokLaid w) ∧ sizedMet enc Tryz.prog Tryz.f6 (OpenSpec.ofChange Rows.xmltreeDepthSpec) false w args)
      (Rows.xmltreeDepthSpec.post enc Tryz.prog Tryz.f6 false true false false) := by
  refine handed_with (C := Tryz.checked) (X := laidMetH Tryz.prog tokLaid) ownTD started (by kernel_rfl) Tryz.func6 (fun _ _ hh h => h.of_heap hh)
    (ChangeSpec.witness_shaped (enc := enc) (C := Tryz.checked) (os := os) (X := fun w _ => laidMetH Tryz.prog tokLaid w) false (World.laidAll Tryz.prog os tokLaid) #[.int .u8 0, .bool false] 8 (World.laidAll_os _ _ _)
      (World.shaped_of_ZipB (by kernel_rfl) (by kernel_rfl)) (by kernel_rfl) (by kernel_rfl) (by kernel_rfl)
      (by rw [MakeChecks.laidMetH_plain _ _ _ (by kernel_rfl)]; exact laidMet_laidAll _ (by kernel_rfl) (by kernel_rfl))) ?_
  intro W base args ds gs before hval0 hW hsh hL
  have hval : ∀ (j : Nat) t v, Tryz.f6.params[j]? = some t → args[j]? = some v → Value.okWide Tryz.prog W .any base t v := hval0
  have hW' := hW
  obtain ⟨p, q, hA0, hV, rfl, _, _⟩ := hW
  have hA : DataW.TrodAll enc Tryz.prog W 0 (fun _ => true) true Tryz.f6.params.toList args.toList ds p := hA0
  rw [Tryz.params6] at hA hval
  obtain ⟨v0, v1, d0, d1, p0, p1, rfl, rfl, rfl, h0, h1⟩ := trodAll_two hA
  obtain ⟨rfl, rfl⟩ := trodVars_none hV
  obtain ⟨x0, rfl, rfl, rfl, wx0⟩ := open_int Tryz.underlying5 (hval 0 5 v0 rfl rfl) h0
  obtain ⟨x1, rfl, rfl, rfl⟩ := open_bool Tryz.underlying4 (hval 1 4 v1 rfl rfl) h1
  simp only [List.append_nil] at hW'
  have hx0 : 0 ≤ x0 ∧ x0 ≤ 255 := by simpa [Lit.wf, IntKind.min, IntKind.max, IntKind.signed, IntKind.bits] using wx0
  refine (walk_TreDepth x0 x1 W hx0.1 hx0.2 (tokT_of_laid hL hsh)).mono fun e W' ⟨he, hb⟩ => ?_
  subst he
  exact ⟨_, rfl, _, _, _, [], [], [], hW', trodAll_mk1 (shut_bool Tryz.underlying4 _), trodAll_mk2 (shut_int Tryz.underlying5 wx0) (shut_bool Tryz.underlying4 _), rfl, hb.frame _, fun h => by cases h⟩
theorem said_XmltreeDepth : Rows.XmltreeDepthSaid :=
  OpenClaim.holds_of_wide 6 Tryz.f6 rfl rfl rfl rfl rfl rfl rfl ⟨rfl, rfl, rfl, rfl, rfl⟩ rfl rfl rfl rfl rfl (by kernel_rfl) Tryz.func6 (by kernel_rfl)
    (of_decide_eq_true (by kernel_rfl)) (by unfold Func.isWrapper; first | (rw [if_pos (by decide +kernel)]; kernel_rfl) | (rw [if_neg (by decide +kernel)]; exact ⟨rfl, rfl⟩))
    (fun os started H enc _ => lifted_XmltreeDepth os started H enc)
theorem plain_XmltreeDepth (f : FuncId) (fn : Func) (hf : Tryz.pinned.checked.prog.funcNamed "feedvault/feedvaultlaw07.XmltreeDepth" = some f) (hfn : Tryz.pinned.checked.prog.funcs[f]? = some fn) :
    false = Tryz.pinned.checked.prog.looks [] ∧ ∀ (j : Nat) t, fn.params[j]? = some t → Tryz.pinned.checked.prog.wantsStandIn t = false := by
  obtain rfl : f = 6 := Option.some.inj ((show Tryz.prog.funcNamed "feedvault/feedvaultlaw07.XmltreeDepth" = some 6 by kernel_rfl).symm.trans hf) |>.symm
  obtain rfl : fn = Tryz.f6 := (Option.some.inj (Tryz.func6.symm.trans hfn)).symm
  refine ⟨by kernel_rfl, fun j t ht => ?_⟩
  rw [Tryz.params6] at ht
  have hm : t ∈ [5, 4] := by simpa using Array.mem_of_getElem? ht
  have hall : ([5, 4].all fun u => !Tryz.prog.wantsStandIn u) = true := by kernel_rfl
  exact (show Tryz.prog.wantsStandIn t = false by simpa using List.all_eq_true.1 hall t hm)
theorem card_XmltreeDepth : Rows.XmltreeDepthCardSaid :=
  Claim7.holds_tied_plain_at .later [] _ _ _ _ said_XmltreeDepth (fun _ h => by cases h) (by kernel_rfl) (fun _ h => by cases h) xmltreeDepth_row_tie rfl ⟨rfl, rfl⟩ (by kernel_rfl) rfl plain_XmltreeDepth (by kernel_rfl)
end Go.Proofs.YtpmkapamlhnmpaaGreatDoor
end
