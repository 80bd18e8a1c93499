/- Packed from the texts MeG MeH. -/
import Derived.Test.YtbfalppeifkjdaaGreatDoorXLate
import Derived.Test.YtbfalppeifkjdaaGreatDoorXk2
import Derived.Test.YtbfalppeifkjdaaGreatDoorXk7
import Derived.Test.YtbfalppeifkjdaaGreatDoorXkU
import Derived.Deep.AppendLies
section
namespace Go.Proofs.YtbfalppeifkjdaaGreatDoor
open Go.RowKit
def strV (s : ByteArray) : ValD := .mk 3 false 0 s [] [] 0
def intV (n : Int) : ValD := .mk 2 false n ⟨#[]⟩ [] [] 0
def arrV (l : List ValD) : ValD := .mk 4 false 0 ⟨#[]⟩ l [] 0
theorem strV_txt (s : ByteArray) : (strV s).text = quoteJ s.data.toList := by rw [vtext_eq]; rfl
theorem intV_txt (n : Int) : (intV n).text = Lib.itoa n := by rw [vtext_eq]; rfl
theorem arrV_txt (l : List ValD) : (arrV l).text = 91 :: (txVs true l ++ [93]) := by rw [vtext_eq]; rfl
theorem txs_strs : ∀ (b : Bool) (l : List ByteArray) (r : List ValD), txVs b (l.map strV ++ r) = jnS b l ++ txVs (b && l.isEmpty) r
  | b, [], r => by
    rw [List.map_nil, List.nil_append, jnS, List.nil_append]
    cases b <;> rfl
  | b, a :: l, r => by
    rw [List.map_cons, List.cons_append, txVs, txs_strs false l r, jnS, strV_txt]
    have : sepT b = if b = true then [] else [44] := by cases b <;> rfl
    rw [this, List.append_assoc, List.append_assoc]
    cases b <;> rfl
theorem oks_strs : ∀ (l : List ByteArray) (r : List ValD), okVs (l.map strV ++ r) = (vaS l && okVs r)
  | [], r => by rw [List.map_nil, List.nil_append]; rfl
  | a :: l, r => by
    rw [List.map_cons, List.cons_append, okVs, oks_strs l r, vok_eq]
    have h1 : properB (strV a) = true := decide_eq_true ⟨⟨by show (0 : Int) ≤ 3; decide, by show (3 : Int) ≤ 5; decide⟩, .inr rfl, .inr rfl, .inl rfl, .inr rfl, .inr rfl⟩
    have h2 : okVs (strV a).items = true := rfl
    have h3 : okMs [] (strV a).mems = true := rfl
    rw [h1, h2, h3, show (strV a).s = a from rfl, show vaS (a :: l) = (vaL a.data.toList && vaS l) from rfl]
    cases vaL a.data.toList <;> rfl
theorem ok_int (n : Int) : (intV n).okB = true := by
  rw [vok_eq]
  have h1 : properB (intV n) = true := decide_eq_true ⟨⟨by show (0 : Int) ≤ 2; decide, by show (2 : Int) ≤ 5; decide⟩, .inr rfl, .inl rfl, .inr rfl, .inr rfl, .inr rfl⟩
  rw [h1]
  rfl
theorem ok_arr (l : List ValD) : (arrV l).okB = okVs l := by
  rw [vok_eq]
  have h1 : properB (arrV l) = true := decide_eq_true ⟨⟨by show (0 : Int) ≤ 4; decide, by show (4 : Int) ≤ 5; decide⟩, .inr rfl, .inr rfl, .inr rfl, .inl rfl, .inr rfl⟩
  rw [h1, show (arrV l).items = l from rfl, show okMs [] (arrV l).mems = true from rfl]
  cases okVs l <;> rfl
theorem dep_flat (k : ValD) (h : k.kind ≠ 4) (h2 : k.kind ≠ 5) : k.depth = 1 := by rw [vdepth_eq, if_neg h, if_neg h2]
theorem dep_le : ∀ (l : List ValD) (m B : Nat), m ≤ B → (∀ k ∈ l, k.depth ≤ B) → vdepths l m ≤ B
  | [], m, B, h, _ => h
  | k :: r, m, B, h, hk => by
    rw [vdepths]
    have h1 := hk k (List.mem_cons_self ..)
    exact dep_le r (max m k.depth) B (by omega) (fun k hk' => hk k (List.mem_cons_of_mem _ hk'))
theorem arr_depth (l : List ValD) (B : Nat) (h : ∀ k ∈ l, k.depth ≤ B) : (arrV l).depth ≤ B + 1 := by
  rw [vdepth_eq, if_pos (show (arrV l).kind = 4 from rfl)]
  have := dep_le l 0 B (Nat.zero_le _) h
  exact Nat.succ_le_succ this
theorem str_depth (s : ByteArray) : (strV s).depth = 1 := dep_flat _ (by show (3 : Int) ≠ 4; decide) (by show (3 : Int) ≠ 5; decide)
theorem int_depth (n : Int) : (intV n).depth = 1 := dep_flat _ (by show (2 : Int) ≠ 4; decide) (by show (2 : Int) ≠ 5; decide)
def entV (e : EntD) : ValD := arrV ([e.id, e.title, e.link, e.content].map strV ++ [intV e.upd])
def feedV (f : FeedD) : ValD := arrV (arrV (f.path.map strV) :: ([f.id, f.title, f.link].map strV ++ [intV f.upd]))
theorem wr_of (n : ValD) (hd : n.depth ≤ 100) : wrZ n = ofBytes (if n.okB = true then n.text else []) := by
  unfold wrZ jvalB
  rw [decide_eq_true hd, Bool.and_true]
  cases n.okB <;> rfl
theorem ent_depth (e : EntD) : (entV e).depth ≤ 100 := by
  have := arr_depth ([e.id, e.title, e.link, e.content].map strV ++ [intV e.upd]) 1 (fun k hk => by
    rcases List.mem_append.1 hk with hk | hk
    · obtain ⟨s, -, rfl⟩ := List.mem_map.1 hk
      rw [str_depth]
      exact Nat.le_refl _
    · rw [List.mem_singleton.1 hk, int_depth]
      exact Nat.le_refl _)
  unfold entV
  omega
theorem feed_depth (f : FeedD) : (feedV f).depth ≤ 100 := by
  have h0 := arr_depth (f.path.map strV) 1 (fun k hk => by
    obtain ⟨s, -, rfl⟩ := List.mem_map.1 hk
    rw [str_depth]
    exact Nat.le_refl _)
  have := arr_depth (arrV (f.path.map strV) :: ([f.id, f.title, f.link].map strV ++ [intV f.upd])) 2 (fun k hk => by
    rcases List.mem_cons.1 hk with rfl | hk
    · exact h0
    rcases List.mem_append.1 hk with hk | hk
    · obtain ⟨s, -, rfl⟩ := List.mem_map.1 hk
      rw [str_depth]
      omega
    · rw [List.mem_singleton.1 hk, int_depth]
      omega)
  unfold feedV
  omega
theorem ent_wr (e : EntD) : wrZ (entV e) = ofBytes (ekL e) := by
  rw [wr_of _ (ent_depth e)]
  unfold entV ekL
  rw [ok_arr, oks_strs, arrV_txt, txs_strs]
  rw [show okVs [intV e.upd] = true by rw [okVs, ok_int]; rfl, Bool.and_true]
  rw [show (true && List.isEmpty [e.id, e.title, e.link, e.content]) = false from rfl, txVs, intV_txt, txVs]
  simp [sepT]
theorem feed_wr (f : FeedD) : wrZ (feedV f) = ofBytes (fkL f) := by
  rw [wr_of _ (feed_depth f)]
  unfold feedV fkL
  rw [ok_arr, okVs, ok_arr, ← List.append_nil (f.path.map strV), oks_strs, oks_strs, arrV_txt, txVs, arrV_txt, txs_strs, txs_strs]
  rw [show okVs [intV f.upd] = true by rw [okVs, ok_int]; rfl, show okVs [] = true from rfl, Bool.and_true, Bool.and_true]
  have hj : jnS false [f.id, f.title, f.link] = 44 :: jnS true [f.id, f.title, f.link] := rfl
  rw [hj]
  simp [txVs, intV_txt, sepT]
theorem bulk_strs : ∀ (l : List ByteArray) (r : List ValD), bulkVs (l.map strV ++ r) ≤ quW l + bulkVs r
  | [], r => by rw [List.map_nil, List.nil_append, quW]; omega
  | a :: l, r => by
    rw [List.map_cons, List.cons_append, bulkVs, quW, vbulk_eq]
    have := bulk_strs l r
    show 1 + a.size + 0 + 0 + _ ≤ _
    omega
theorem bulk_int (n : Int) : (intV n).bulk = 1 := by rw [vbulk_eq]; rfl
theorem bulk_arr (l : List ValD) : (arrV l).bulk = 1 + bulkVs l := by rw [vbulk_eq]; rfl
theorem r64_strs (l : List ByteArray) (r : List ValD) (hr : R64s r) : R64s (l.map strV ++ r) := by
  induction l with
  | nil => exact hr
  | cons a l ih =>
    rw [List.map_cons, List.cons_append, R64s]
    exact ⟨(vr64_eq _).2 ⟨by show _ ≤ (0 : Int) ∧ (0 : Int) ≤ _; omega, by rw [show (strV a).items = [] from rfl, R64s]; trivial, by rw [show (strV a).mems = [] from rfl, R64m]; trivial⟩, ih⟩
theorem r64_int (n : Int) (u0 : -9223372036854775808 ≤ n) (u1 : n ≤ 9223372036854775807) : R64s [intV n] := by
  rw [R64s, R64s]
  exact ⟨(vr64_eq _).2 ⟨⟨u0, u1⟩, by rw [show (intV n).items = [] from rfl, R64s]; trivial, by rw [show (intV n).mems = [] from rfl, R64m]; trivial⟩, trivial⟩
theorem r64_arr (l : List ValD) (h : R64s l) : (arrV l).R64 := (vr64_eq _).2 ⟨by show _ ≤ (0 : Int) ∧ (0 : Int) ≤ _; omega, h, by rw [show (arrV l).mems = [] from rfl, R64m]; trivial⟩
theorem mval_info : (Tryz.prog.info? 119).map (fun i => (i.zero, i.size, i.bytes)) = some (some (.agg #[.int .i64 0, .bool false, .int .i64 0, .string ⟨#[]⟩, .slice none 0 0, .slice none 0 0, .int .i64 0]), 7, 96) := by kernel_rfl
theorem mflat_val (w : World) (k : ValD) (hi : k.items = []) (hm : k.mems = []) (p q : Option Addr) (c d : Nat) : ValIs w k (.agg #[.int .i64 k.kind, .bool k.b, .int .i64 k.n, .string k.s, .slice p 0 c, .slice q 0 d, .int .i64 k.at']) :=
  (val_is _ _ _).2 ⟨p, c, q, d, by rw [hi, hm]; rfl, by rw [hi, ItemsAt_nil]; trivial, by rw [hm, MemsAt_nil]; trivial⟩
def FlatR (l : List ValD) (xs : List Value) : Prop := ∀ (w : World) (X : Nat → Bool), VRow w X l xs
theorem FlatR.nil : FlatR [] [] := fun w X => by rw [VRow]
theorem FlatR.snoc {l : List ValD} {xs : List Value} (h : FlatR l xs) (k : ValD) (hi : k.items = []) (hm : k.mems = []) (p q : Option Addr) (c d : Nat) : FlatR (l ++ [k]) (xs ++ [.int .i64 k.kind, .bool k.b, .int .i64 k.n, .string k.s, .slice p 0 c, .slice q 0 d, .int .i64 k.at']) :=
  fun w X => VRow.snoc (mflat_val _ k hi hm p q c d) _ _ (h w X)
theorem mvrow_one {w : World} {X : Nat → Bool} : ∀ (l : List ValD) (xs : List Value), VRow w X l xs → ∀ u ∈ xs, u.oneCell' = true
  | [], xs, h, u, hu => by rw [VRow] at h; subst h; cases hu
  | k :: r, xs, h, u, hu => by
    rw [VRow] at h
    obtain ⟨v0, v1, v2, v3, v4, v5, v6, ys, rfl, hv, hr⟩ := h
    obtain ⟨p, c, q, d, e, -, -⟩ := (val_is _ _ _).1 hv
    simp only [Value.agg.injEq, Array.mk.injEq, List.cons.injEq, and_true] at e
    obtain ⟨rfl, rfl, rfl, rfl, rfl, rfl, rfl⟩ := e
    simp only [List.mem_cons] at hu
    rcases hu with rfl | rfl | rfl | rfl | rfl | rfl | rfl | hu
    all_goals first | rfl | exact mvrow_one r ys hr u hu
theorem mvrow_len {w : World} {X : Nat → Bool} : ∀ (l : List ValD) (xs : List Value), VRow w X l xs → xs.length = l.length * 7
  | [], xs, h => by rw [VRow] at h; subst h; rfl
  | k :: r, xs, h => by
    rw [VRow] at h
    obtain ⟨v0, v1, v2, v3, v4, v5, v6, ys, rfl, hv, hr⟩ := h
    have := mvrow_len r ys hr
    simp only [List.length_cons]
    omega
theorem str_form {w : World} {s : ByteArray} {x : Value} (h : ValIs w (strV s) x) : ∃ p c q d, x = .agg #[.int .i64 3, .bool false, .int .i64 0, .string s, .slice p 0 c, .slice q 0 d, .int .i64 0] := val_form h
theorem int_form {w : World} {n : Int} {x : Value} (h : ValIs w (intV n) x) : ∃ p c q d, x = .agg #[.int .i64 2, .bool false, .int .i64 n, .string ⟨#[]⟩, .slice p 0 c, .slice q 0 d, .int .i64 0] := val_form h
set_option maxRecDepth 100000 in
set_option maxHeartbeats 16000000 in
theorem mc_values (l : List ByteArray) (p : Option Addr) (c : Nat) (w : World) (hl : NamAt w p l) (hn : l.length ≤ 1000000) :
    Calls Tryz.prog 86 #[.slice p l.length c] w fun e w' => ∃ (xs : List Value) (P : Option Addr) (cap : Nat), e = .returned (.slice P l.length cap) ∧ w'.ownsRow w.heap.size 119 7 (.slice P l.length cap) l.length xs ∧ FlatR (l.map strV) xs ∧ Below w.heap.size w w' := by
  have HL := Lib.hid hl
  have hnz : (l.length : Int) ≤ 1000000 := by omega
  obtain ⟨i0, hi0, hi1, hi3, hi4⟩ := info_parts mval_info
  clear hl
  go_enter Tryz.func86, Tryz.ntmps86
  go_wp2
  go_loopw [8, 3] (fun q v wr => ∃ (i : Nat) (xs : List Value) (P : Option Addr) (cap : Nat), i ≤ l.length ∧ q = .int .i64 i ∧ v = .slice P i cap ∧ wr.ownsRow w.heap.size 119 7 (.slice P i cap) i xs ∧ FlatR ((l.take i).map strV) xs ∧ Below w.heap.size w wr) (fun q _ _ => l.length - (RowKit.intOf q).toNat)
  case atStart => exact ⟨0, [], none, 0, Nat.zero_le _, rfl, rfl, ⟨rfl, .inl ⟨rfl, rfl⟩⟩, FlatR.nil, Below.refl _ _⟩
  case round =>
    obtain ⟨i, xs, P, cap, hi, rfl, rfl, ho, hr, hbr⟩ := hrel
    have hzr := hbr.size
    by_cases hlt : i < l.length
    · have hiz : (i : Int) < (l.length : Int) := by omega
      obtain ⟨a, rfl, ca⟩ := HL.out.below hbr i hlt
      have hcs : (l.take (i + 1)).map strV = (l.take i).map strV ++ [strV l[i]] := by rw [List.take_succ_eq_append_getElem hlt, List.map_append]; rfl
      obtain ⟨s, hs⟩ : ∃ s, l[i] = s := ⟨_, rfl⟩
      rw [hs] at ca hcs
      obtain ⟨aa, haa⟩ : ∃ aa, a.add i = aa := ⟨_, rfl⟩
      rw [haa] at ca
      have cS := jw_String s wr
      have HO := Lib.hid ho
      have HR := Lib.hid hr
      have HBR := Lib.hid hbr
      have HCS := Lib.hid hcs
      clear ho hr hbr hcs hs
      go_wp2_with fail
      refine cS.mono ?_
      rintro e w1 ⟨⟨x, rfl, hx⟩, b1⟩
      obtain ⟨p3, c3, q3, d3, rfl⟩ := str_form (s := s) hx
      have hz1 := b1.size
      have hown0 := HO.out.lt
      have b2 : Below wr.heap.size wr (w1.alloc (.cells #[.int .i64 3, .bool false, .int .i64 0, .string s, .slice p3 0 c3, .slice q3 0 d3, .int .i64 0] 119)) := b1.alloc b1.size _
      have hown2 := jrow_same HO.out (fun g' hg' => b2.block g' (hown0 g' hg').2)
      have hnews : ∀ j u, ([.int .i64 3, .bool false, .int .i64 0, .string s, .slice p3 0 c3, .slice q3 0 d3, .int .i64 0] : List Value)[j]? = some u → (w1.alloc (.cells #[.int .i64 3, .bool false, .int .i64 0, .string s, .slice p3 0 c3, .slice q3 0 d3, .int .i64 0] 119)).cell? ((⟨w1.heap.size, 0, none⟩ : Addr).add j) = some u := World.news_of_block (heap_alloc_new w1 _)
      have H2 := Lib.hid b2
      clear cS b1 b2 hx ca
      go_wp2_with (at_builtin; refine wpList_append_lies _ rfl (.tmp 12) (.tmp 15) 115 rfl w.heap.size 119 i0 (.agg #[.int .i64 0, .bool false, .int .i64 0, .string ⟨#[]⟩, .slice none 0 0, .slice none 0 0, .int .i64 0]) 7 96 Tryz.underlying115 hi0 hi1 hi3 hi4 rfl (by decide) (.slice P i cap) i xs rfl hown2 ⟨w1.heap.size, 0, none⟩ 1 1 [.int .i64 3, .bool false, .int .i64 0, .string s, .slice p3 0 c3, .slice q3 0 d3, .int .i64 0] rfl rfl hnews (by intro u hu; simp at hu; rcases hu with rfl | rfl | rfl | rfl | rfl | rfl | rfl <;> rfl) (by decide) (by unfold maxLen; omega) (by omega) (by simp; omega) (w1.heap.size + 1) (by simp) ?_; intro g cap' w6 hown6 hgr6 hat6 hlt6)
      have hB6 := Lib.hid (show Below w.heap.size w w6 from (HBR.out.trans (H2.out.mono hzr)).grown hgr6 (by have := World.size_alloc w1 (.cells #[.int .i64 3, .bool false, .int .i64 0, .string s, .slice p3 0 c3, .slice q3 0 d3, .int .i64 0] 119); omega) (fun j hj => (hown0 j hj).1))
      have hO6 := Lib.hid hown6
      have hR6 := Lib.hid (show FlatR ((l.take (i + 1)).map strV) (xs ++ [.int .i64 3, .bool false, .int .i64 0, .string s, .slice p3 0 c3, .slice q3 0 d3, .int .i64 0]) by rw [HCS.out]; exact HR.out.snoc (strV s) rfl rfl p3 q3 c3 d3)
      clear hown6 hgr6 hat6 hown2 hnews hown0 HO HR HBR H2
      go_wp2
      go_roundw
      case rel => exact ⟨i + 1, _, some ⟨g, 0, none⟩, cap', by omega, by go_num, rfl, hO6.out, hR6.out, hB6.out⟩
      case measure => simp [RowKit.intOf]; omega
    · obtain rfl : i = l.length := by omega
      have hiz : ¬ (l.length : Int) < (l.length : Int) := by omega
      rw [List.take_length] at hr
      have HO := Lib.hid ho
      have HR := Lib.hid hr
      have HBR := Lib.hid hbr
      clear ho hr hbr
      go_wp2
      go_ret
      exact ⟨xs, P, cap, rfl, HO.out, HR.out, HBR.out⟩
set_option maxRecDepth 100000 in
theorem mc_key (L : List ValD) (p : Option Addr) (c : Nat) (w : World) (hI : ItemsAt w p 0 L) (hb : (arrV L).bulk ≤ 1000000) (hr : R64s L) (hT : TabW w) :
    Calls Tryz.prog 85 #[.slice p L.length c] w fun e w' => e = .returned (.string (wrZ (arrV L))) ∧ Below w.heap.size w w' := by
  have hbs : bulkVs L ≤ 1000000 := by rw [bulk_arr] at hb; omega
  have cA := jw_Array L (fun k hk => Nat.le_trans (bulkVs_mem L k hk) hbs) p c w hI (Nat.le_trans (bulkVs_len L) hbs)
  have cW := fun (wx : World) (x : Value) (hx : ValIs wx (arrV L) x) (hT : TabW wx) => jw_Write (arrV L) x wx hb (r64_arr L hr) hT hx
  have HW := Lib.hid cW
  have HT := Lib.hid hT
  generalize wrZ (arrV L) = R at *
  generalize chkZ (arrV L) = R2 at *
  clear hI hb hr hT cW
  go_enter Tryz.func85, Tryz.ntmps85
  go_wp2_with fail
  refine cA.mono ?_
  rintro e w1 ⟨⟨x, rfl, hx⟩, b1⟩
  have cW := HW.out w1 x hx.full (TabW_below HT.out b1)
  have HB := Lib.hid b1
  clear cA b1 hx HW
  go_wp2_with fail
  refine cW.mono ?_
  rintro e w2 ⟨rfl, b2⟩
  have HB2 := Lib.hid (HB.out.trans (b2.mono HB.out.size))
  clear cW b2
  go_wp2
  go_ret
  exact ⟨rfl, HB2.out⟩
end Go.Proofs.YtbfalppeifkjdaaGreatDoor
end
section
namespace Go.Proofs.YtbfalppeifkjdaaGreatDoor
open Go.RowKit
def NoX (_ : Nat) : Bool := false
theorem noX_val {w : World} {k : ValD} {v : Value} (h : ValIs w k v) : ValIs (sans w NoX) k v := ValIs.mono (fun a u hc => by rw [sans_out (show NoX a.block = false from rfl)]; exact hc) k v h
theorem items_cells {w : World} {l : List ValD} {xs : List Value} {g : Nat} (hc : ∀ i u, xs[i]? = some u → w.cell? ((⟨g, 0, none⟩ : Addr).add i) = some u) (hr : VRow w NoX l xs) : ItemsAt w (some ⟨g, 0, none⟩) 0 l :=
  VRow.lies (w' := w) (X := NoX) (fun _ _ h => (sans_cell h).1) l xs 0 _ (fun i u hu => by rw [Nat.zero_mul, Nat.zero_add]; exact hc i u hu) hr
theorem items_own {w : World} {B n cap : Nat} {p : Option Addr} {l : List ValD} {xs : List Value} (ho : w.ownsRow B 119 7 (.slice p n cap) n xs) (hr : VRow w NoX l xs) (hn : n = l.length) : ItemsAt w p 0 l := by
  rcases Nat.eq_zero_or_pos n with h0 | h0
  · have : l = [] := List.length_eq_zero_iff.1 (by omega)
    subst this
    rw [ItemsAt]
    trivial
  · obtain ⟨g, cap', hv, -, -⟩ := ho.form h0
    injection hv with hp _ _
    subst hp
    exact items_cells (World.ownsRow.cells ho rfl) hr
theorem own_one (w : World) (B : Nat) (v0 v1 v2 v3 v4 v5 v6 : Value) (hB : B ≤ w.heap.size) : (w.alloc (.cells #[v0, v1, v2, v3, v4, v5, v6] 119)).ownsRow B 119 7 (.slice (some ⟨w.heap.size, 0, none⟩) 1 1) 1 [v0, v1, v2, v3, v4, v5, v6] :=
  ⟨rfl, .inr ⟨w.heap.size, 1, #[v0, v1, v2, v3, v4, v5, v6], rfl, hB, heap_alloc_new w _, Nat.le_refl _, by unfold maxLen; omega, rfl, rfl⟩⟩
set_option maxRecDepth 100000 in
set_option maxHeartbeats 16000000 in
theorem mc_EntryKey (e : EntD) (w : World) (hs : e.id.size + e.title.size + e.link.size + e.content.size ≤ 100000) (u0 : -9223372036854775808 ≤ e.upd) (u1 : e.upd ≤ 9223372036854775807) (hT : TabW w) : Calls Tryz.prog 73 #[EntV e] w fun e' w' => e' = .returned (.string (ofBytes (ekL e))) ∧ Below w.heap.size w w' := by
  obtain ⟨W1, hW1⟩ : ∃ W1, W1 = w.alloc (.cells #[.string e.id, .string e.title, .string e.link, .string e.content, .int .i64 e.upd] 23) := ⟨_, rfl⟩
  have hX : EBox W1 w.heap.size e := by rw [hW1]; exact EBox.new w e
  have hB : Below w.heap.size w W1 := by rw [hW1]; exact (Below.refl _ _).alloc (Nat.le_refl _) _
  have S0 : W1.drew.cell? ⟨w.heap.size, 0, none⟩ = some (.string e.id) ∧ W1.drew.cell? ⟨w.heap.size, 1, none⟩ = some (.string e.title) ∧ W1.drew.cell? ⟨w.heap.size, 2, none⟩ = some (.string e.link) ∧ W1.drew.cell? ⟨w.heap.size, 3, none⟩ = some (.string e.content) ∧ W1.drew.cell? ⟨w.heap.size, 4, none⟩ = some (.int .i64 e.upd) := hX
  have HB := Lib.hid (show Below w.heap.size w W1.drew from hB.drew)
  have HT := Lib.hid hT
  have hLb : (arrV ([e.id, e.title, e.link, e.content].map strV ++ [intV e.upd])).bulk ≤ 1000000 := by
    rw [bulk_arr]
    have := bulk_strs [e.id, e.title, e.link, e.content] [intV e.upd]
    simp only [bulkVs, bulk_int, quW] at this ⊢
    omega
  have hLr : R64s ([e.id, e.title, e.link, e.content].map strV ++ [intV e.upd]) := r64_strs _ _ (r64_int _ u0 u1)
  have hK := fun (p : Option Addr) (c : Nat) (wx : World) (hI : ItemsAt wx p 0 ([e.id, e.title, e.link, e.content].map strV ++ [intV e.upd])) (hT : TabW wx) => mc_key _ p c wx hI hLb hLr hT
  rw [show wrZ (arrV ([e.id, e.title, e.link, e.content].map strV ++ [intV e.upd])) = ofBytes (ekL e) from ent_wr e] at hK
  have HK := Lib.hid hK
  have hSB : ∀ u1 u2 : World, Below u1.heap.size u1 u2 → (u1.cell? ⟨w.heap.size, 0, none⟩ = some (.string e.id) ∧ u1.cell? ⟨w.heap.size, 1, none⟩ = some (.string e.title) ∧ u1.cell? ⟨w.heap.size, 2, none⟩ = some (.string e.link) ∧ u1.cell? ⟨w.heap.size, 3, none⟩ = some (.string e.content) ∧ u1.cell? ⟨w.heap.size, 4, none⟩ = some (.int .i64 e.upd)) → (u2.cell? ⟨w.heap.size, 0, none⟩ = some (.string e.id) ∧ u2.cell? ⟨w.heap.size, 1, none⟩ = some (.string e.title) ∧ u2.cell? ⟨w.heap.size, 2, none⟩ = some (.string e.link) ∧ u2.cell? ⟨w.heap.size, 3, none⟩ = some (.string e.content) ∧ u2.cell? ⟨w.heap.size, 4, none⟩ = some (.int .i64 e.upd)) := fun u1 u2 hb h => by
    obtain ⟨z0, z1, z2, z3, z4⟩ := h
    exact ⟨mcell hb z0, mcell hb z1, mcell hb z2, mcell hb z3, mcell hb z4⟩
  obtain ⟨i0, hi0, hi1, hi3, hi4⟩ := info_parts mval_info
  unfold EntV
  generalize ofBytes (ekL e) = R at *
  clear hB hX hT hLb hLr hK hs u0 u1
  go_enter Tryz.func73, Tryz.ntmps73
  go_upto_region 1 with fail
  simp only [← hW1]
  clear hW1
  go_wp2
  refine wp_region_late (S := fun w' => w'.cell? ⟨w.heap.size, 0, none⟩ = some (.string e.id) ∧ w'.cell? ⟨w.heap.size, 1, none⟩ = some (.string e.title) ∧ w'.cell? ⟨w.heap.size, 2, none⟩ = some (.string e.link) ∧ w'.cell? ⟨w.heap.size, 3, none⟩ = some (.string e.content) ∧ w'.cell? ⟨w.heap.size, 4, none⟩ = some (.int .i64 e.upd)) (D := []) (by kernel_rfl) ?_
  generalize W1.drew = Wd at *
  refine anyL_take (i := 0) (oi := { dst := some 3, op := Go.Op.fieldAddr 23 (Go.Operand.tmp 1) 0, type := 0, pos := "key.go:10", after := #[], guard := none }) (v := ?_) rfl (by decide) (by kernel_rfl) (by kernel_rfl) (by kernel_rfl) (by kernel_rfl) (fun _ _ _ h => h) (Or.inl ⟨by rfl, ?_⟩) S0 ?_
  rotate_left
  · intro wz hSz
    skip
    go_simp
    (try with_reducible rfl)
  try simp only [Act.put, List.setIfInBounds_toArray, List.set_cons_zero, List.set_cons_succ]
  refine anyL_take (i := 1) (oi := { dst := some 4, op := Go.Op.load 9 (Go.Operand.tmp 3), type := 9, pos := "key.go:10", after := #[{ on := 0, ground := Go.Ground.data }], guard := none }) (v := ?_) rfl (by decide) (by kernel_rfl) (by kernel_rfl) (by kernel_rfl) (by kernel_rfl) (fun _ _ _ h => h) (Or.inl ⟨by rfl, ?_⟩) S0 ?_
  rotate_left
  · intro wz hSz
    obtain ⟨z0, z1, z2, z3, z4⟩ := hSz
    go_simp
    (try with_reducible rfl)
  try simp only [Act.put, List.setIfInBounds_toArray, List.set_cons_zero, List.set_cons_succ]
  refine anyL_take (i := 2) (oi := { dst := some 5, op := Go.Op.fieldAddr 23 (Go.Operand.tmp 1) 1, type := 0, pos := "key.go:10", after := #[], guard := none }) (v := ?_) rfl (by decide) (by kernel_rfl) (by kernel_rfl) (by kernel_rfl) (by kernel_rfl) (fun _ _ _ h => h) (Or.inl ⟨by rfl, ?_⟩) S0 ?_
  rotate_left
  · intro wz hSz
    skip
    go_simp
    (try with_reducible rfl)
  try simp only [Act.put, List.setIfInBounds_toArray, List.set_cons_zero, List.set_cons_succ]
  refine anyL_take (i := 3) (oi := { dst := some 6, op := Go.Op.load 9 (Go.Operand.tmp 5), type := 9, pos := "key.go:10", after := #[{ on := 2, ground := Go.Ground.data }], guard := none }) (v := ?_) rfl (by decide) (by kernel_rfl) (by kernel_rfl) (by kernel_rfl) (by kernel_rfl) (fun _ _ _ h => h) (Or.inl ⟨by rfl, ?_⟩) S0 ?_
  rotate_left
  · intro wz hSz
    obtain ⟨z0, z1, z2, z3, z4⟩ := hSz
    go_simp
    (try with_reducible rfl)
  try simp only [Act.put, List.setIfInBounds_toArray, List.set_cons_zero, List.set_cons_succ]
  refine anyL_take (i := 4) (oi := { dst := some 7, op := Go.Op.fieldAddr 23 (Go.Operand.tmp 1) 2, type := 0, pos := "key.go:10", after := #[], guard := none }) (v := ?_) rfl (by decide) (by kernel_rfl) (by kernel_rfl) (by kernel_rfl) (by kernel_rfl) (fun _ _ _ h => h) (Or.inl ⟨by rfl, ?_⟩) S0 ?_
  rotate_left
  · intro wz hSz
    skip
    go_simp
    (try with_reducible rfl)
  try simp only [Act.put, List.setIfInBounds_toArray, List.set_cons_zero, List.set_cons_succ]
  refine anyL_take (i := 5) (oi := { dst := some 8, op := Go.Op.load 9 (Go.Operand.tmp 7), type := 9, pos := "key.go:10", after := #[{ on := 4, ground := Go.Ground.data }], guard := none }) (v := ?_) rfl (by decide) (by kernel_rfl) (by kernel_rfl) (by kernel_rfl) (by kernel_rfl) (fun _ _ _ h => h) (Or.inl ⟨by rfl, ?_⟩) S0 ?_
  rotate_left
  · intro wz hSz
    obtain ⟨z0, z1, z2, z3, z4⟩ := hSz
    go_simp
    (try with_reducible rfl)
  try simp only [Act.put, List.setIfInBounds_toArray, List.set_cons_zero, List.set_cons_succ]
  refine anyL_take (i := 6) (oi := { dst := some 9, op := Go.Op.fieldAddr 23 (Go.Operand.tmp 1) 3, type := 0, pos := "key.go:10", after := #[], guard := none }) (v := ?_) rfl (by decide) (by kernel_rfl) (by kernel_rfl) (by kernel_rfl) (by kernel_rfl) (fun _ _ _ h => h) (Or.inl ⟨by rfl, ?_⟩) S0 ?_
  rotate_left
  · intro wz hSz
    skip
    go_simp
    (try with_reducible rfl)
  try simp only [Act.put, List.setIfInBounds_toArray, List.set_cons_zero, List.set_cons_succ]
  refine anyL_take (i := 7) (oi := { dst := some 10, op := Go.Op.load 9 (Go.Operand.tmp 9), type := 9, pos := "key.go:10", after := #[{ on := 6, ground := Go.Ground.data }], guard := none }) (v := ?_) rfl (by decide) (by kernel_rfl) (by kernel_rfl) (by kernel_rfl) (by kernel_rfl) (fun _ _ _ h => h) (Or.inl ⟨by rfl, ?_⟩) S0 ?_
  rotate_left
  · intro wz hSz
    obtain ⟨z0, z1, z2, z3, z4⟩ := hSz
    go_simp
    (try with_reducible rfl)
  try simp only [Act.put, List.setIfInBounds_toArray, List.set_cons_zero, List.set_cons_succ]
  refine anyL_take (i := 10) (oi := { dst := some 13, op := Go.Op.fieldAddr 23 (Go.Operand.tmp 1) 4, type := 0, pos := "key.go:10", after := #[], guard := none }) (v := ?_) rfl (by decide) (by kernel_rfl) (by kernel_rfl) (by kernel_rfl) (by kernel_rfl) (fun _ _ _ h => h) (Or.inl ⟨by rfl, ?_⟩) S0 ?_
  rotate_left
  · intro wz hSz
    skip
    go_simp
    (try with_reducible rfl)
  try simp only [Act.put, List.setIfInBounds_toArray, List.set_cons_zero, List.set_cons_succ]
  refine anyL_take (i := 11) (oi := { dst := some 14, op := Go.Op.load 2 (Go.Operand.tmp 13), type := 2, pos := "key.go:10", after := #[{ on := 10, ground := Go.Ground.data }], guard := none }) (v := ?_) rfl (by decide) (by kernel_rfl) (by kernel_rfl) (by kernel_rfl) (by kernel_rfl) (fun _ _ _ h => h) (Or.inl ⟨by rfl, ?_⟩) S0 ?_
  rotate_left
  · intro wz hSz
    obtain ⟨z0, z1, z2, z3, z4⟩ := hSz
    go_simp
    (try with_reducible rfl)
  try simp only [Act.put, List.setIfInBounds_toArray, List.set_cons_zero, List.set_cons_succ]
  refine anyL_ready (rs := [8]) (by kernel_rfl) (by simp) ?_
  refine AllL.cons (o := { dst := some 11, op := Go.Op.buildSlice 32 4 #[(0, Go.Operand.tmp 4), (1, Go.Operand.tmp 6), (2, Go.Operand.tmp 8), (3, Go.Operand.tmp 10)], type := 32, pos := "key.go:10", after := #[{ on := 1, ground := Go.Ground.data }, { on := 3, ground := Go.Ground.data }, { on := 5, ground := Go.Ground.data }, { on := 7, ground := Go.Ground.data }], guard := none }) rfl (fun K' hK => ?_) AllL.nil
  rw [if_pos (by rfl)]
  go_simp
  have b8 : Below Wd.heap.size Wd (Wd.alloc (.cells #[.string e.id, .string e.title, .string e.link, .string e.content] 9)) := (Below.refl _ _).alloc (Nat.le_refl _) _
  have cV := mc_values [e.id, e.title, e.link, e.content] _ 4 _ (nam_four Wd e.id e.title e.link e.content) (by simp)
  have S8 := hSB _ _ b8 S0
  have HS8 := Lib.hid (show w.heap.size < (Wd.alloc (.cells #[.string e.id, .string e.title, .string e.link, .string e.content] 9)).heap.size from vblock_lt S8.1)
  have HB8 := Lib.hid (HB.out.trans (b8.mono HB.out.size))
  refine hK _ _ S8 ?_
  clear hK K' S0 b8
  generalize Wd.alloc (.cells #[.string e.id, .string e.title, .string e.link, .string e.content] 9) = W8 at *
  try simp only [Act.put, List.setIfInBounds_toArray, List.set_cons_zero, List.set_cons_succ]
  refine anyL_ready (rs := [9]) (by kernel_rfl) (by simp) ?_
  refine AllL.cons (o := { dst := some 12, op := Go.Op.call { callee := Go.Callee.value (Go.Operand.func 86), args := #[Go.Operand.tmp 11], argTypes := #[32] }, type := 115, pos := "key.go:10", after := #[{ on := 8, ground := Go.Ground.data }], guard := none }) rfl (fun K' hK => ?_) AllL.nil
  rw [if_pos (by rfl)]
  go_simp
  go_at_call 86
  refine cV.mono ?_
  rintro e9 w9 ⟨xs, P, cap, rfl, hown9, hflat, b9⟩
  have S9 := hSB _ _ b9 S8
  refine hK _ _ S9 ?_
  clear hK K' S8 cV
  have cI := jw_IntV e.upd w9
  have HB9 := Lib.hid (HB8.out.trans (b9.mono HB8.out.size))
  have HW := Lib.hid b9.size
  have HO9 := Lib.hid hown9
  have HF := Lib.hid hflat
  clear b9 hown9 hflat
  try simp only [Act.put, List.setIfInBounds_toArray, List.set_cons_zero, List.set_cons_succ]
  refine anyL_ready (rs := [12]) (by kernel_rfl) (by simp) ?_
  refine AllL.cons (o := { dst := some 15, op := Go.Op.call { callee := Go.Callee.value (Go.Operand.func 87), args := #[Go.Operand.tmp 14], argTypes := #[2] }, type := 119, pos := "key.go:10", after := #[{ on := 11, ground := Go.Ground.data }, { on := 9, ground := Go.Ground.chain }], guard := none }) rfl (fun K' hK => ?_) AllL.nil
  rw [if_pos (by rfl)]
  go_simp
  go_at_call 87
  refine cI.mono ?_
  rintro e12 w12 ⟨⟨x, rfl, hx⟩, b12⟩
  obtain ⟨p3, c3, q3, d3, rfl⟩ := int_form (n := e.upd) hx
  have S12 := hSB _ _ b12 S9
  refine hK _ _ S12 ?_
  clear hK K' S9 cI hx
  have hz12 := b12.size
  have hown0 := HO9.out.lt
  have b13 : Below w9.heap.size w9 (w12.alloc (.cells #[.int .i64 2, .bool false, .int .i64 e.upd, .string ⟨#[]⟩, .slice p3 0 c3, .slice q3 0 d3, .int .i64 0] 119)) := b12.alloc hz12 _
  have hown13 := jrow_same HO9.out (fun g' hg' => b13.block g' (hown0 g' hg').2)
  have hnews : ∀ j u, ([.int .i64 2, .bool false, .int .i64 e.upd, .string ⟨#[]⟩, .slice p3 0 c3, .slice q3 0 d3, .int .i64 0] : List Value)[j]? = some u → (w12.alloc (.cells #[.int .i64 2, .bool false, .int .i64 e.upd, .string ⟨#[]⟩, .slice p3 0 c3, .slice q3 0 d3, .int .i64 0] 119)).cell? ((⟨w12.heap.size, 0, none⟩ : Addr).add j) = some u := World.news_of_block (heap_alloc_new w12 _)
  have S13 := hSB _ (w12.alloc (.cells #[.int .i64 2, .bool false, .int .i64 e.upd, .string ⟨#[]⟩, .slice p3 0 c3, .slice q3 0 d3, .int .i64 0] 119)) ((Below.refl _ _).alloc (Nat.le_refl _) _) S12
  have hsz13 : (w12.alloc (.cells #[.int .i64 2, .bool false, .int .i64 e.upd, .string ⟨#[]⟩, .slice p3 0 c3, .slice q3 0 d3, .int .i64 0] 119)).heap.size = w12.heap.size + 1 := by simp
  have HB13 := Lib.hid (HB9.out.trans (b13.mono HB9.out.size))
  clear b12 b13
  try simp only [Act.put, List.setIfInBounds_toArray, List.set_cons_zero, List.set_cons_succ]
  refine anyL_ready (rs := [13]) (by kernel_rfl) (by simp) ?_
  refine AllL.cons (o := { dst := some 16, op := Go.Op.buildSlice 115 1 #[(0, Go.Operand.tmp 15)], type := 115, pos := "key.go:10", after := #[{ on := 12, ground := Go.Ground.data }], guard := none }) rfl (fun K' hK => ?_) AllL.nil
  rw [if_pos (by rfl)]
  go_simp
  refine hK _ _ S13 ?_
  clear hK K' S12
  try simp only [Act.put, List.setIfInBounds_toArray, List.set_cons_zero, List.set_cons_succ]
  refine anyL_ready (rs := [14]) (by kernel_rfl) (by simp) ?_
  refine AllL.cons (o := { dst := some 17, op := Go.Op.call { callee := Go.Callee.builtin Go.Builtin.append, args := #[Go.Operand.tmp 12, Go.Operand.tmp 16], argTypes := #[115, 115] }, type := 115, pos := "key.go:10", after := #[{ on := 9, ground := Go.Ground.data }, { on := 13, ground := Go.Ground.data }, { on := 12, ground := Go.Ground.chain }], guard := none }) rfl (fun K' hK => ?_) AllL.nil
  refine step_append_lies _ rfl (.tmp 12) (.tmp 16) 115 rfl W8.heap.size 119 i0 (.agg #[.int .i64 0, .bool false, .int .i64 0, .string ⟨#[]⟩, .slice none 0 0, .slice none 0 0, .int .i64 0]) 7 96 Tryz.underlying115 hi0 hi1 hi3 hi4 rfl (by decide) (.slice P 4 cap) 4 xs (by simp [Act.eval]) hown13 ⟨w12.heap.size, 0, none⟩ 1 1 [.int .i64 2, .bool false, .int .i64 e.upd, .string ⟨#[]⟩, .slice p3 0 c3, .slice q3 0 d3, .int .i64 0] (by simp [Act.eval]) rfl hnews (by intro u hu; simp at hu; rcases hu with rfl | rfl | rfl | rfl | rfl | rfl | rfl <;> rfl) (by decide) (by unfold maxLen; omega) (by omega) (by have := HW.out; omega) (w12.heap.size + 1) hsz13 ?_
  intro g cap' w14 hown14 hgr14 hat14 hlt14
  have S14 : w14.cell? ⟨w.heap.size, 0, none⟩ = some (.string e.id) ∧ w14.cell? ⟨w.heap.size, 1, none⟩ = some (.string e.title) ∧ w14.cell? ⟨w.heap.size, 2, none⟩ = some (.string e.link) ∧ w14.cell? ⟨w.heap.size, 3, none⟩ = some (.string e.content) ∧ w14.cell? ⟨w.heap.size, 4, none⟩ = some (.int .i64 e.upd) := by
    have hg : ∀ k, k < w12.heap.size → k < w9.heap.size → k < W8.heap.size → w14.heap[k]? = (w12.alloc (.cells #[.int .i64 2, .bool false, .int .i64 e.upd, .string ⟨#[]⟩, .slice p3 0 c3, .slice q3 0 d3, .int .i64 0] 119)).heap[k]? := fun k h1 h2 h3 => hgr14.block k (by omega) (fun e => by have := (hown0 k e.symm).1; omega)
    have hlt : w.heap.size < W8.heap.size := HS8.out
    have hl9 : w.heap.size < w9.heap.size := Nat.lt_of_lt_of_le hlt HW.out
    have hb := hg w.heap.size (Nat.lt_of_lt_of_le hl9 hz12) hl9 hlt
    obtain ⟨z0, z1, z2, z3, z4⟩ := S13
    exact ⟨(World.cell?_of_block hb).trans z0, (World.cell?_of_block hb).trans z1, (World.cell?_of_block hb).trans z2, (World.cell?_of_block hb).trans z3, (World.cell?_of_block hb).trans z4⟩
  have hI := items_own (l := [e.id, e.title, e.link, e.content].map strV ++ [intV e.upd]) hown14 (HF.out.snoc (intV e.upd) rfl rfl p3 q3 c3 d3 w14 NoX) rfl
  have hB14 : Below w.heap.size w w14 := HB13.out.grown hgr14 HB13.out.size (fun j hj => by have := (hown0 j hj).1; have := HB8.out.size; omega)
  have cK := HK.out _ cap' w14 hI (TabW_below HT.out hB14)
  have HB14 := Lib.hid hB14
  refine hK _ _ S14 ?_
  clear hK K' hI hgr14 hat14 hlt14 hown14 S13 hown13 hnews hB14 hown0 hsz13
  try simp only [Act.put, List.setIfInBounds_toArray, List.set_cons_zero, List.set_cons_succ]
  refine anyL_ready (rs := [15]) (by kernel_rfl) (by simp) ?_
  refine AllL.cons (o := { dst := some 18, op := Go.Op.call { callee := Go.Callee.value (Go.Operand.func 85), args := #[Go.Operand.tmp 17], argTypes := #[115] }, type := 9, pos := "key.go:10", after := #[{ on := 14, ground := Go.Ground.data }, { on := 14, ground := Go.Ground.chain }], guard := none }) rfl (fun K' hK => ?_) AllL.nil
  rw [if_pos (by rfl)]
  go_simp
  go_at_call 85
  refine cK.mono ?_
  rintro e15 w15 ⟨rfl, b15⟩
  have S15 := hSB _ _ b15 S14
  refine hK _ _ S15 ?_
  clear hK K' S14 cK
  have HB15 := Lib.hid (HB14.out.trans (b15.mono HB14.out.size))
  clear b15
  try simp only [Act.put, List.setIfInBounds_toArray, List.set_cons_zero, List.set_cons_succ]
  refine anyL_take (i := 16) (oi := { dst := some 2, op := Go.Op.assign (Go.Operand.tmp 18), type := 9, pos := "key.go:10", after := #[{ on := 15, ground := Go.Ground.data }, { on := 15, ground := Go.Ground.chain }, { on := 0, ground := Go.Ground.phase }, { on := 1, ground := Go.Ground.phase }, { on := 2, ground := Go.Ground.phase }, { on := 3, ground := Go.Ground.phase }, { on := 4, ground := Go.Ground.phase }, { on := 5, ground := Go.Ground.phase }, { on := 6, ground := Go.Ground.phase }, { on := 7, ground := Go.Ground.phase }, { on := 8, ground := Go.Ground.phase }, { on := 9, ground := Go.Ground.phase }, { on := 10, ground := Go.Ground.phase }, { on := 11, ground := Go.Ground.phase }, { on := 12, ground := Go.Ground.phase }, { on := 13, ground := Go.Ground.phase }, { on := 14, ground := Go.Ground.phase }, { on := 15, ground := Go.Ground.phase }], guard := none }) (v := ?_) rfl (by decide) (by kernel_rfl) (by kernel_rfl) (by kernel_rfl) (by kernel_rfl) (fun _ _ _ h => h) (Or.inl ⟨by rfl, ?_⟩) S15 ?_
  rotate_left
  · intro wz hSz
    skip
    go_simp
    (try with_reducible rfl)
  try simp only [Act.put, List.setIfInBounds_toArray, List.set_cons_zero, List.set_cons_succ]
  refine anyL_done (by kernel_rfl) ?_ _
  clear S15 hSB
  go_wp2
  go_ret
  exact ⟨rfl, HB15.out⟩
theorem arr_form {w : World} {l : List ValD} {x : Value} (h : ValIs w (arrV l) x) : ∃ p c q d, x = .agg #[.int .i64 4, .bool false, .int .i64 0, .string ⟨#[]⟩, .slice p l.length c, .slice q 0 d, .int .i64 0] := val_form h
set_option maxRecDepth 100000 in
set_option maxHeartbeats 16000000 in
theorem mc_FeedKey (f : FeedD) (v : Value) (w : World) (hf : FeedIs w f v) (hq : quW f.path ≤ 100000) (hs : f.id.size + f.title.size + f.link.size ≤ 100000) (hn : f.path.length ≤ 1000000) (u0 : -9223372036854775808 ≤ f.upd) (u1 : f.upd ≤ 9223372036854775807) (hT : TabW w) : Calls Tryz.prog 97 #[v] w fun e' w' => e' = .returned (.string (ofBytes (fkL f))) ∧ Below w.heap.size w w' := by
  obtain ⟨p1, c1, q1, d1, rfl, hp1, -⟩ := hf
  obtain ⟨W1, hW1⟩ : ∃ W1, W1 = w.alloc (.cells #[.slice p1 f.path.length c1, .string f.id, .string f.title, .string f.link, .int .i64 f.upd, .slice q1 f.ents.length d1] 35) := ⟨_, rfl⟩
  have hX : FBox W1 w.heap.size f p1 c1 q1 d1 := by rw [hW1]; exact FBox.new w f p1 c1 q1 d1
  have hB : Below w.heap.size w W1 := by rw [hW1]; exact (Below.refl _ _).alloc (Nat.le_refl _) _
  have hbs : bulkVs (f.path.map strV) ≤ 100000 := by
    have := bulk_strs f.path []
    rw [List.append_nil] at this
    simp only [bulkVs] at this
    omega
  have hLb : (feedV f).bulk ≤ 1000000 := by
    unfold feedV
    rw [bulk_arr, bulkVs, bulk_arr]
    have := bulk_strs [f.id, f.title, f.link] [intV f.upd]
    simp only [bulkVs, bulk_int, quW] at this ⊢
    omega
  have hLr : R64s (arrV (f.path.map strV) :: ([f.id, f.title, f.link].map strV ++ [intV f.upd])) := by
    rw [R64s]
    exact ⟨r64_arr _ (by rw [← List.append_nil (f.path.map strV)]; exact r64_strs _ _ (by rw [R64s]; trivial)), r64_strs _ _ (r64_int _ u0 u1)⟩
  have hK := fun (p : Option Addr) (c : Nat) (wx : World) (hI : ItemsAt wx p 0 (arrV (f.path.map strV) :: ([f.id, f.title, f.link].map strV ++ [intV f.upd]))) (hT : TabW wx) => mc_key _ p c wx hI hLb hLr hT
  rw [show wrZ (arrV (arrV (f.path.map strV) :: ([f.id, f.title, f.link].map strV ++ [intV f.upd]))) = ofBytes (fkL f) from feed_wr f] at hK
  have HK := Lib.hid hK
  have HT := Lib.hid hT
  have HX := Lib.hid hX
  have HB := Lib.hid hB
  have cV := mc_values f.path p1 c1 W1 (hp1.below hB) hn
  have hA := fun (p : Option Addr) (c : Nat) (wx : World) (hI : ItemsAt wx p 0 (f.path.map strV)) => jw_Array (f.path.map strV) (fun k hk => Nat.le_trans (bulkVs_mem _ k hk) (by omega)) p c wx hI (Nat.le_trans (bulkVs_len _) (by omega))
  have HA := Lib.hid hA
  have HFI := Lib.hid (fun wx => jw_IntV f.upd wx)
  obtain ⟨i0, hi0, hi1, hi3, hi4⟩ := info_parts mval_info
  obtain ⟨e0, e1, e2, e3, e4, e5⟩ := hX
  generalize ofBytes (fkL f) = R at *
  clear hB hT hLb hLr hK hs u0 u1 hp1 hbs hq hA
  go_enter Tryz.func97, Tryz.ntmps97
  go_upto_region 1 with fail
  simp only [← hW1]
  clear hW1
  go_wp2_with fail
  refine cV.mono ?_
  rintro e2' w2 ⟨xs, P, cap, rfl, hown2, hflat2, b2⟩
  have hI2 := items_own hown2 (hflat2 w2 NoX) (by rw [List.length_map])
  have cA := HA.out P cap w2 hI2
  rw [List.length_map] at cA
  have HX2 := Lib.hid (HX.out.below b2)
  have HB2 := Lib.hid (HB.out.trans (b2.mono HB.out.size))
  clear cV e0 e1 e2 e3 e4 e5 hown2 hflat2 hI2 b2 HX HB
  go_wp2_with fail
  refine cA.mono ?_
  rintro e3' w3 ⟨⟨x, rfl, hx⟩, b3⟩
  have hx := hx.full
  obtain ⟨p3, c3, q3, d3, rfl⟩ := arr_form hx
  rw [List.length_map] at hx ⊢
  obtain ⟨W4, hW4⟩ : ∃ W4, W4 = w3.alloc (.cells #[.int .i64 4, .bool false, .int .i64 0, .string ⟨#[]⟩, .slice p3 f.path.length c3, .slice q3 0 d3, .int .i64 0] 119) := ⟨_, rfl⟩
  have b4 : Below w3.heap.size w3 W4 := by rw [hW4]; exact (Below.refl _ _).alloc (Nat.le_refl _) _
  have hown4 : W4.ownsRow w3.heap.size 119 7 (.slice (some ⟨w3.heap.size, 0, none⟩) 1 1) 1 [.int .i64 4, .bool false, .int .i64 0, .string ⟨#[]⟩, .slice p3 f.path.length c3, .slice q3 0 d3, .int .i64 0] := by rw [hW4]; exact own_one w3 w3.heap.size _ _ _ _ _ _ _ (Nat.le_refl _)
  have HX4 := Lib.hid ((HX2.out.below b3).below b4)
  have hbx : w.heap.size < w3.heap.size := Nat.lt_of_lt_of_le (vblock_lt HX2.out.1) b3.size
  have HXA := Lib.hid hx
  have HB3 := Lib.hid (HB2.out.trans (b3.mono HB2.out.size))
  have HB4 := Lib.hid b4
  have HO4 := Lib.hid hown4
  obtain ⟨e0, e1, e2, e3, e4, e5⟩ := id HX4.out
  clear cA hx b3 b4 hown4 HX2 HB2
  go_upto_region 2 with fail
  simp only [← hW4]
  clear hW4
  have b5 : Below W4.heap.size W4 (W4.alloc (.cells #[.string f.id, .string f.title, .string f.link] 9)) := (Below.refl _ _).alloc (Nat.le_refl _) _
  have cV := mc_values [f.id, f.title, f.link] _ 3 _ (nam_three W4 f.id f.title f.link) (by simp)
  have HX5 := Lib.hid (HX4.out.below b5)
  have H5 := Lib.hid (HB4.out.trans (b5.mono HB4.out.size))
  clear b5
  go_wp2_with fail
  refine cV.mono ?_
  rintro e6' w6 ⟨xs6, P6, cap6, rfl, hown6, hflat6, b6⟩
  obtain ⟨g6, cap6', hv6, hg6, hgl6⟩ := World.ownsRow.form (n := 3) hown6 (by decide)
  obtain ⟨rfl, rfl⟩ : P6 = some ⟨g6, 0, none⟩ ∧ cap6 = cap6' := by injection hv6 with h1 _ h3; exact ⟨h1, h3⟩
  clear hv6
  have H6 := Lib.hid (H5.out.trans (b6.mono H5.out.size))
  have HX6 := Lib.hid (HX5.out.below b6)
  have hown4' := jrow_same HO4.out (fun g' hg' => by
    have h1 := HO4.out.lt g' hg'
    exact (b6.block g' (Nat.lt_of_lt_of_le h1.2 (by simp))).trans (heap_alloc_old W4 _ h1.2))
  have hnews6 := World.ownsRow.cells hown6 (g := g6) rfl
  have hl6 : xs6.length = 3 * 7 := mvrow_len _ _ (hflat6 w6 NoX)
  have h16 := mvrow_one _ _ (hflat6 w6 NoX)
  have HF6 := Lib.hid hflat6
  have hzz : w3.heap.size ≤ w6.heap.size := H6.out.size
  clear cV e0 e1 e2 e3 e4 e5 hown6 hflat6 b6 HX4 HX5 H5 hg6
  go_wp2_with (at_builtin; refine wpList_append_lies _ rfl (.tmp 9) (.tmp 17) 115 rfl w3.heap.size 119 i0 (.agg #[.int .i64 0, .bool false, .int .i64 0, .string ⟨#[]⟩, .slice none 0 0, .slice none 0 0, .int .i64 0]) 7 96 Tryz.underlying115 hi0 hi1 hi3 hi4 rfl (by decide) (.slice (some ⟨w3.heap.size, 0, none⟩) 1 1) 1 [.int .i64 4, .bool false, .int .i64 0, .string ⟨#[]⟩, .slice p3 f.path.length c3, .slice q3 0 d3, .int .i64 0] rfl hown4' ⟨g6, 0, none⟩ 3 cap6 xs6 rfl hl6 hnews6 h16 (by decide) (by unfold maxLen; omega) (by omega) hzz w6.heap.size rfl ?_; intro g7 cap7 w7 hown7 hgr7 hat7 hlt7; have e4 : w7.cell? ⟨w.heap.size, 4, none⟩ = some (.int .i64 f.upd) := (World.cell?_of_block (hgr7.block w.heap.size (by omega) (fun e => by have := (hown4'.lt _ e.symm).1; omega))).trans HX6.out.2.2.2.2.1)
  have H7 := Lib.hid (H6.out.grown hgr7 hzz (fun j hj => (hown4'.lt j hj).1))
  have cI := HFI.out w7
  have HO7 := Lib.hid hown7
  clear hown4' hnews6 hl6 h16 hgr7 hown7 hat7 HX6
  go_wp2_with fail
  refine cI.mono ?_
  rintro e8' w8 ⟨⟨x8, rfl, hx8⟩, b8⟩
  obtain ⟨p8, c8, q8, d8, rfl⟩ := int_form (n := f.upd) hx8
  have hz8 := b8.size
  have b9 : Below w7.heap.size w7 (w8.alloc (.cells #[.int .i64 2, .bool false, .int .i64 f.upd, .string ⟨#[]⟩, .slice p8 0 c8, .slice q8 0 d8, .int .i64 0] 119)) := b8.alloc hz8 _
  have hown9 := jrow_same HO7.out (fun g' hg' => b9.block g' (HO7.out.lt g' hg').2)
  have hnews : ∀ j u, ([.int .i64 2, .bool false, .int .i64 f.upd, .string ⟨#[]⟩, .slice p8 0 c8, .slice q8 0 d8, .int .i64 0] : List Value)[j]? = some u → (w8.alloc (.cells #[.int .i64 2, .bool false, .int .i64 f.upd, .string ⟨#[]⟩, .slice p8 0 c8, .slice q8 0 d8, .int .i64 0] 119)).cell? ((⟨w8.heap.size, 0, none⟩ : Addr).add j) = some u := World.news_of_block (heap_alloc_new w8 _)
  have H9 := Lib.hid (H7.out.trans (b9.mono H7.out.size))
  have hz9 : w3.heap.size ≤ w8.heap.size + 1 := by have := H7.out.size; omega
  clear cI hx8 b8 b9 e4
  go_wp2_with (at_builtin; refine wpList_append_lies _ rfl (.tmp 19) (.tmp 23) 115 rfl w3.heap.size 119 i0 (.agg #[.int .i64 0, .bool false, .int .i64 0, .string ⟨#[]⟩, .slice none 0 0, .slice none 0 0, .int .i64 0]) 7 96 Tryz.underlying115 hi0 hi1 hi3 hi4 rfl (by decide) (.slice (some ⟨g7, 0, none⟩) 4 cap7) 4 ([.int .i64 4, .bool false, .int .i64 0, .string ⟨#[]⟩, .slice p3 f.path.length c3, .slice q3 0 d3, .int .i64 0] ++ xs6) rfl hown9 ⟨w8.heap.size, 0, none⟩ 1 1 [.int .i64 2, .bool false, .int .i64 f.upd, .string ⟨#[]⟩, .slice p8 0 c8, .slice q8 0 d8, .int .i64 0] rfl rfl hnews (by intro u hu; simp at hu; rcases hu with rfl | rfl | rfl | rfl | rfl | rfl | rfl <;> rfl) (by decide) (by unfold maxLen; omega) (by omega) (by simp; omega) (w8.heap.size + 1) (by simp) ?_; intro g10 cap10 w10 hown10 hgr10 hat10 hlt10)
  have h10 : Below w3.heap.size w3 w10 := H9.out.grown hgr10 H9.out.size (fun j hj => (HO7.out.lt j hj).1)
  have hr10 : VRow w10 NoX (arrV (f.path.map strV) :: ([f.id, f.title, f.link].map strV ++ [intV f.upd])) ([.int .i64 4, .bool false, .int .i64 0, .string ⟨#[]⟩, .slice p3 f.path.length c3, .slice q3 0 d3, .int .i64 0] ++ xs6 ++ [.int .i64 2, .bool false, .int .i64 f.upd, .string ⟨#[]⟩, .slice p8 0 c8, .slice q8 0 d8, .int .i64 0]) := by
    rw [List.append_assoc, List.cons_append, List.cons_append, List.cons_append, List.cons_append, List.cons_append, List.cons_append, List.cons_append, List.nil_append, VRow]
    exact ⟨_, _, _, _, _, _, _, _, rfl, noX_val (HXA.out.below h10), HF6.out.snoc (intV f.upd) rfl rfl p8 q8 c8 d8 w10 NoX⟩
  have hI10 := items_own hown10 hr10 rfl
  have hBB := HB3.out.trans (h10.mono HB3.out.size)
  have cK := HK.out _ cap10 w10 hI10 (TabW_below HT.out hBB)
  have HBB := Lib.hid hBB
  clear hown9 hnews hown10 hgr10 hat10 h10 hr10 hI10 hBB
  go_wp2_with fail
  refine cK.mono ?_
  rintro e11 w11 ⟨rfl, b11⟩
  have HB11 := Lib.hid (HBB.out.trans (b11.mono HBB.out.size))
  clear cK b11
  go_wp2
  go_ret
  exact ⟨rfl, HB11.out⟩
end Go.Proofs.YtbfalppeifkjdaaGreatDoor
end
