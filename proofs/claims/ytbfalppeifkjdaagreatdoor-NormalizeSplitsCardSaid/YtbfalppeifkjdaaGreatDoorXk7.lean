/- Packed from the texts MdG MdH MdM MdN. -/
import Derived.Test.YtbfalppeifkjdaaGreatDoorXk6
import Derived.Test.YtbfalppeifkjdaaGreatDoorXkD
import Derived.Test.YtbfalppeifkjdaaGreatDoorXkU
section
namespace Go.Proofs.YtbfalppeifkjdaaGreatDoor
open Go.RowKit
def jnS : Bool → List ByteArray → List UInt8
  | _, [] => []
  | b, a :: r => (if b = true then [] else [44]) ++ (quoteJ a.data.toList ++ jnS false r)
def vaS (l : List ByteArray) : Bool := l.all fun s => vaL s.data.toList
def quW : List ByteArray → Nat
  | [] => 0
  | a :: r => 6 * a.size + 3 + quW r
end Go.Proofs.YtbfalppeifkjdaaGreatDoor
end
section
namespace Go.Proofs.YtbfalppeifkjdaaGreatDoor
open Go.RowKit
def ekL (e : EntD) : List UInt8 := if vaS [e.id, e.title, e.link, e.content] = true then 91 :: (jnS true [e.id, e.title, e.link, e.content] ++ (44 :: (Lib.itoa e.upd ++ [93]))) else []
def fkL (f : FeedD) : List UInt8 := if (vaS f.path && vaS [f.id, f.title, f.link]) = true then 91 :: 91 :: (jnS true f.path ++ (93 :: 44 :: (jnS true [f.id, f.title, f.link] ++ (44 :: (Lib.itoa f.upd ++ [93]))))) else []
theorem nam_four (w : World) (a b c d : ByteArray) : NamAt (w.alloc (.cells #[.string a, .string b, .string c, .string d] 9)) (some ⟨w.heap.size, 0, none⟩) [a, b, c, d] := by
  have h := heap_alloc_new w (.cells #[.string a, .string b, .string c, .string d] 9)
  intro i hi
  refine ⟨_, rfl, ?_⟩
  match i, hi with
  | 0, _ => exact cell_of_row _ _ 0 _ _ _ h
  | 1, _ => exact cell_of_row _ _ 1 _ _ _ h
  | 2, _ => exact cell_of_row _ _ 2 _ _ _ h
  | 3, _ => exact cell_of_row _ _ 3 _ _ _ h
theorem nam_three (w : World) (a b c : ByteArray) : NamAt (w.alloc (.cells #[.string a, .string b, .string c] 9)) (some ⟨w.heap.size, 0, none⟩) [a, b, c] := by
  have h := heap_alloc_new w (.cells #[.string a, .string b, .string c] 9)
  intro i hi
  refine ⟨_, rfl, ?_⟩
  match i, hi with
  | 0, _ => exact cell_of_row _ _ 0 _ _ _ h
  | 1, _ => exact cell_of_row _ _ 1 _ _ _ h
  | 2, _ => exact cell_of_row _ _ 2 _ _ _ h
end Go.Proofs.YtbfalppeifkjdaaGreatDoor
end
section
namespace Go.Proofs.YtbfalppeifkjdaaGreatDoor
open Go.RowKit
def feW (f : FeedD) : Nat := min (f.id.size + f.title.size + f.link.size) 9000
def naW (s : ByteArray) : Nat := min s.size 9000
def enW (e : EntD) : Nat := min (e.id.size + e.title.size + e.link.size + e.content.size) 9000
def paS (n : Nat) : List ByteArray → Nat
  | [] => n
  | s :: r => paS (n + (1 + naW s)) r
def enS (n : Nat) : List EntD → Option Nat
  | [] => some n
  | e :: r => if 5000 < n + (1 + enW e) then none else enS (n + (1 + enW e)) r
def tlF (n : Nat) : List FeedD → Bool
  | [] => false
  | f :: r => match enS (paS (n + (1 + feW f)) f.path) f.ents with
    | none => true
    | some m => if 5000 < m then true else tlF m r
structure FWf (f : FeedD) : Prop where
  id : f.id.size ≤ 140737488351232
  title : f.title.size ≤ 140737488351232
  link : f.link.size ≤ 140737488351232
  path : ∀ s ∈ f.path, s.size ≤ 140737488351232
  plen : f.path.length ≤ 140737488351232
  ents : ∀ e ∈ f.ents, e.id.size ≤ 140737488351232 ∧ e.title.size ≤ 140737488351232 ∧ e.link.size ≤ 140737488351232 ∧ e.content.size ≤ 140737488351232
  elen : f.ents.length ≤ 140737488351232
def oneZ (b : Bool) : Int := if b = true then 1 else 0
theorem mwrap {x : Int} (h0 : 0 ≤ x) (h1 : x ≤ 9000000000000000000) : IntKind.i64.wrap x = x := wrap_small x (by omega) (by omega)
set_option maxRecDepth 100000 in
set_option maxHeartbeats 16000000 in
theorem law_TooLargeM (l : List FeedD) (p : Option Addr) (c : Nat) (w : World) (hF : FeedsAt w p l) (hW : ∀ f ∈ l, FWf f) (hl : l.length ≤ 140737488351232) : Calls Tryz.prog 33 #[.agg #[.slice p l.length c]] w fun e w' => e = .returned (.int .i64 (oneZ (tlF 0 l))) ∧ Below w.heap.size w w' := by
  obtain ⟨R, hR⟩ : ∃ R, oneZ (tlF 0 l) = R := ⟨_, rfl⟩
  rw [hR]
  have HR := Lib.hid (show R = oneZ (tlF 0 (l.drop 0)) from hR.symm)
  have HF := Lib.hid hF
  have HW := Lib.hid hW
  have hlz : (l.length : Int) ≤ 140737488351232 := by omega
  have hb0 : Below w.heap.size w (w.alloc (.cells #[.slice p l.length c] 46)) := (Below.refl _ _).alloc (Nat.le_refl _) _
  have HB0 := Lib.hid hb0
  clear hF hW hR hb0
  go_enter Tryz.func33, Tryz.ntmps33
  go_wp2
  generalize w.alloc (.cells #[.slice p l.length c] 46) = W0 at *
  go_loopw [3, 13] (fun z q wr => ∃ (i n : Nat), i ≤ l.length ∧ q = .int .i64 (i : Int) ∧ z = .int .i64 (n : Int) ∧ n ≤ 5000 ∧ R = oneZ (tlF n (l.drop i)) ∧ Below w.heap.size w wr) (fun _ q _ => l.length - (RowKit.intOf q).toNat)
  case atStart => exact ⟨0, 0, Nat.zero_le _, rfl, rfl, by decide, HR.out, HB0.out⟩
  case round =>
    clear HR HB0
    obtain ⟨i, n, hi, rfl, rfl, hn, hR, hb⟩ := hrel
    obtain ⟨wo, rfl⟩ : ∃ wo, wo = wr := ⟨_, rfl⟩
    have hz := hb.size
    by_cases hlt : i < l.length
    · have hiz : (i : Int) < (l.length : Int) := by omega
      obtain ⟨a, p2, c2, q2, d2, rfl, ⟨a0, a1, a2, a3, a4, a5⟩, hp2, he2⟩ := HF.out.below hb i hlt
      rw [List.drop_eq_getElem_cons hlt, tlF] at hR
      obtain ⟨f, hf⟩ : ∃ f, l[i] = f := ⟨_, rfl⟩
      have hfw := HW.out f (by rw [← hf]; exact List.getElem_mem _)
      rw [hf] at a0 a1 a2 a3 a4 a5 hp2 he2 hR
      clear hf
      obtain ⟨aa, haa⟩ : ∃ aa, a.add (i * 6) = aa := ⟨_, rfl⟩
      rw [haa] at a0 a1 a2 a3 a4 a5
      simp only [Addr.add, Nat.reduceEqDiff, ↓reduceIte] at a1 a2 a3 a4 a5
      obtain ⟨W2, hW2⟩ : ∃ W2, W2 = wo.alloc (.cells #[.slice p2 f.path.length c2, .string f.id, .string f.title, .string f.link, .int .i64 f.upd, .slice q2 f.ents.length d2] 35) := ⟨_, rfl⟩
      have hb2 : Below wo.heap.size wo W2 := by rw [hW2]; exact (Below.refl _ _).alloc (Nat.le_refl _) _
      have X2 : FBox W2 wo.heap.size f p2 c2 q2 d2 := by rw [hW2]; exact FBox.new wo f p2 c2 q2 d2
      obtain ⟨x0, x1, x2, x3, x4, x5⟩ := id X2
      have s1 := hfw.id
      have s2 := hfw.title
      have s3 := hfw.link
      have hpl : (f.path.length : Int) ≤ 140737488351232 := by have := hfw.plen; omega
      have hel : (f.ents.length : Int) ≤ 140737488351232 := by have := hfw.elen; omega
      have r1 : IntKind.i64.wrap ((f.id.size : Int) + (f.title.size : Int)) = (f.id.size : Int) + (f.title.size : Int) := mwrap (by omega) (by omega)
      have r2 : IntKind.i64.wrap ((f.id.size : Int) + (f.title.size : Int) + (f.link.size : Int)) = (f.id.size : Int) + (f.title.size : Int) + (f.link.size : Int) := mwrap (by omega) (by omega)
      have r3 : min ((f.id.size : Int) + (f.title.size : Int) + (f.link.size : Int)) 9000 = (feW f : Int) := by unfold feW; omega
      have r4 : IntKind.i64.wrap (1 + (feW f : Int)) = 1 + (feW f : Int) := mwrap (by unfold feW; omega) (by unfold feW; omega)
      have r5 : IntKind.i64.wrap ((n : Int) + (1 + (feW f : Int))) = (n : Int) + (1 + (feW f : Int)) := mwrap (by unfold feW; omega) (by unfold feW; omega)
      have hfe : feW f ≤ 9000 := by unfold feW; omega
      have HX := Lib.hid X2
      have HFW := Lib.hid hfw
      have HB := Lib.hid hb
      have HB2 := Lib.hid hb2
      have HP := Lib.hid (hp2.below hb2)
      have HE := Lib.hid (he2.below hb2)
      have HRR := Lib.hid hR
      clear hR hb hb2 X2 hfw hp2 he2
      go_upto_region 5 with fail
      simp only [← hW2]
      clear hW2 a0 a1 a2 a3 a4 a5
      go_wp2
      generalize hn1 : n + (1 + feW f) = n1 at *
      have hn1z : (n : Int) + (1 + (feW f : Int)) = (n1 : Int) := by omega
      rw [hn1z]
      have hn1b : n1 ≤ 14001 := by omega
      clear r1 r2 r3 r4 r5 s1 s2 s3 hfe hn1 hn1z x1 x2 x3 x4 x5
      go_loopw [3, 35] (fun z q wr => ∃ (j m : Nat), j ≤ f.path.length ∧ q = .int .i64 (j : Int) ∧ z = .int .i64 (m : Int) ∧ m ≤ 14001 + 9001 * j ∧ paS n1 f.path = paS m (f.path.drop j) ∧ Below W2.heap.size W2 wr) (fun _ q _ => f.path.length - (RowKit.intOf q).toNat)
      case atStart => exact ⟨0, n1, Nat.zero_le _, rfl, rfl, by omega, rfl, Below.refl _ _⟩
      case round =>
        obtain ⟨j, m, hj, rfl, rfl, hm, hS, hbj⟩ := hrel
        by_cases hjl : j < f.path.length
        · have hjz : (j : Int) < (f.path.length : Int) := by omega
          obtain ⟨b, rfl, cb⟩ := HP.out.below hbj j hjl
          rw [List.drop_eq_getElem_cons hjl, paS] at hS
          obtain ⟨s, hs⟩ : ∃ s, f.path[j] = s := ⟨_, rfl⟩
          have hsz := HFW.out.path s (by rw [← hs]; exact List.getElem_mem _)
          have hpn := HFW.out.plen
          rw [hs] at cb hS
          clear hs
          obtain ⟨bb, hbb⟩ : ∃ bb, b.add j = bb := ⟨_, rfl⟩
          rw [hbb] at cb
          have r3 : min (s.size : Int) 9000 = (naW s : Int) := by unfold naW; omega
          have hna : naW s ≤ 9000 := by unfold naW; omega
          have r4 : IntKind.i64.wrap (1 + (naW s : Int)) = 1 + (naW s : Int) := mwrap (by omega) (by omega)
          have r5 : IntKind.i64.wrap ((m : Int) + (1 + (naW s : Int))) = (m : Int) + (1 + (naW s : Int)) := mwrap (by omega) (by omega)
          have HBJ := Lib.hid hbj
          have HS := Lib.hid hS
          clear hS hbj
          go_wp2
          go_roundw
          case rel => exact ⟨j + 1, m + (1 + naW s), by omega, by go_num, by go_num, by omega, HS.out, HBJ.out⟩
          case measure => simp [RowKit.intOf]; omega
        · obtain rfl : j = f.path.length := by omega
          have hjz : ¬ (f.path.length : Int) < (f.path.length : Int) := by omega
          rw [List.drop_length, paS] at hS
          obtain ⟨wp, rfl⟩ : ∃ wp, wp = wr := ⟨_, rfl⟩
          have hpn := HFW.out.plen
          have hmb : m ≤ 1300000000000000000 := by omega
          obtain ⟨-, -, -, -, -, x5⟩ := HX.out.below hbj
          have HRE := Lib.hid (show R = (match enS m (f.ents.drop 0) with | none => oneZ true | some k => if 5000 < k then oneZ true else oneZ (tlF k (l.drop (i + 1)))) by
            rw [HRR.out, hS]
            show oneZ (match enS m f.ents with | none => true | some k => if 5000 < k then true else tlF k (l.drop (i + 1))) = (match enS m f.ents with | none => oneZ true | some k => if 5000 < k then oneZ true else oneZ (tlF k (l.drop (i + 1))))
            cases enS m f.ents with
            | none => rfl
            | some k => dsimp only; split <;> rfl)
          have HEP := Lib.hid (HE.out.below hbj)
          have HBP := Lib.hid ((HB.out.trans (HB2.out.mono HB.out.size)).trans (hbj.mono (Nat.le_trans HB.out.size HB2.out.size)))
          clear hS hbj x0 HRR HE HP HX HB HB2 hm
          go_wp2
          go_loopw [3, 49] (fun z q wr => ∃ (j k : Nat), j ≤ f.ents.length ∧ q = .int .i64 (j : Int) ∧ z = .int .i64 (k : Int) ∧ (k ≤ 5000 ∨ (j = 0 ∧ k ≤ 1300000000000000000)) ∧ R = (match enS k (f.ents.drop j) with | none => oneZ true | some k => if 5000 < k then oneZ true else oneZ (tlF k (l.drop (i + 1)))) ∧ Below wp.heap.size wp wr) (fun _ q _ => f.ents.length - (RowKit.intOf q).toNat)
          case atStart => exact ⟨0, m, Nat.zero_le _, rfl, rfl, .inr ⟨rfl, hmb⟩, HRE.out, Below.refl _ _⟩
          case round =>
            clear HRE
            obtain ⟨j, k, hj, rfl, rfl, hk, hR, hbj⟩ := hrel
            by_cases hjl : j < f.ents.length
            · have hjz : (j : Int) < (f.ents.length : Int) := by omega
              obtain ⟨b, rfl, b0, b1, b2, b3, b4⟩ := HEP.out.below hbj j hjl
              rw [List.drop_eq_getElem_cons hjl, enS] at hR
              obtain ⟨x, hx⟩ : ∃ x, f.ents[j] = x := ⟨_, rfl⟩
              obtain ⟨s1, s2, s3, s4⟩ := HFW.out.ents x (by rw [← hx]; exact List.getElem_mem _)
              rw [hx] at b0 b1 b2 b3 b4 hR
              clear hx
              obtain ⟨bb, hbb⟩ : ∃ bb, b.add (j * 5) = bb := ⟨_, rfl⟩
              rw [hbb] at b0 b1 b2 b3 b4
              simp only [Addr.add, Nat.reduceEqDiff, ↓reduceIte] at b1 b2 b3 b4
              have r1 : IntKind.i64.wrap ((x.id.size : Int) + (x.title.size : Int)) = (x.id.size : Int) + (x.title.size : Int) := mwrap (by omega) (by omega)
              have r2 : IntKind.i64.wrap ((x.id.size : Int) + (x.title.size : Int) + (x.link.size : Int)) = (x.id.size : Int) + (x.title.size : Int) + (x.link.size : Int) := mwrap (by omega) (by omega)
              have r2' : IntKind.i64.wrap ((x.id.size : Int) + (x.title.size : Int) + (x.link.size : Int) + (x.content.size : Int)) = (x.id.size : Int) + (x.title.size : Int) + (x.link.size : Int) + (x.content.size : Int) := mwrap (by omega) (by omega)
              have r3 : min ((x.id.size : Int) + (x.title.size : Int) + (x.link.size : Int) + (x.content.size : Int)) 9000 = (enW x : Int) := by unfold enW; omega
              have hen : enW x ≤ 9000 := by unfold enW; omega
              have r4 : IntKind.i64.wrap (1 + (enW x : Int)) = 1 + (enW x : Int) := mwrap (by omega) (by omega)
              have r5 : IntKind.i64.wrap ((k : Int) + (1 + (enW x : Int))) = (k : Int) + (1 + (enW x : Int)) := mwrap (by omega) (by omega)
              have hb3 : Below wp.heap.size wp (wr.alloc (.cells #[.string x.id, .string x.title, .string x.link, .string x.content, .int .i64 x.upd] 23)) := hbj.alloc hbj.size _
              have HB3 := Lib.hid hb3
              clear hbj hb3
              by_cases hov : 5000 < k + (1 + enW x)
              · have hovz : (5000 : Int) < (k : Int) + (1 + (enW x : Int)) := by omega
                rw [if_pos hov] at hR
                have HRR := Lib.hid hR
                clear hR
                go_wp2
                go_ret
                exact ⟨mretI HRR.out.symm, HBP.out.trans (HB3.out.mono HBP.out.size)⟩
              · have hovz : ¬ (5000 : Int) < (k : Int) + (1 + (enW x : Int)) := by omega
                rw [if_neg hov] at hR
                have HRR := Lib.hid hR
                clear hR
                go_wp2
                go_roundw
                case rel => exact ⟨j + 1, k + (1 + enW x), by omega, by go_num, by go_num, .inl (by omega), HRR.out, HB3.out⟩
                case measure => simp [RowKit.intOf]; omega
            · obtain rfl : j = f.ents.length := by omega
              have hjz : ¬ (f.ents.length : Int) < (f.ents.length : Int) := by omega
              rw [List.drop_length, enS] at hR
              have HBK := Lib.hid (HBP.out.trans (hbj.mono HBP.out.size))
              clear hbj
              by_cases hov : 5000 < k
              · have hovz : (5000 : Int) < (k : Int) := by omega
                dsimp only at hR
                rw [if_pos hov] at hR
                have HRR := Lib.hid hR
                clear hR
                go_wp2
                go_ret
                exact ⟨mretI HRR.out.symm, HBK.out⟩
              · have hovz : ¬ (5000 : Int) < (k : Int) := by omega
                dsimp only at hR
                rw [if_neg hov] at hR
                have HRR := Lib.hid hR
                clear hR
                go_wp2
                go_roundw
                case rel => exact ⟨i + 1, k, by omega, by go_num, rfl, by omega, HRR.out, HBK.out⟩
                case measure => simp [RowKit.intOf]; omega
    · obtain rfl : i = l.length := by omega
      have hiz : ¬ (l.length : Int) < (l.length : Int) := by omega
      rw [List.drop_length, tlF] at hR
      have HB := Lib.hid hb
      have HRR := Lib.hid hR
      clear hb hR
      go_wp2
      go_ret
      exact ⟨mretI HRR.out.symm, HB.out⟩
end Go.Proofs.YtbfalppeifkjdaaGreatDoor
end
section
namespace Go.Proofs.YtbfalppeifkjdaaGreatDoor
open Go.RowKit
theorem paS_ge : ∀ (l : List ByteArray) (n : Nat), n + l.length ≤ paS n l ∧ ∀ s ∈ l, n + naW s ≤ paS n l
  | [], n => ⟨Nat.le_refl _, fun s hs => by cases hs⟩
  | x :: l, n => by
    obtain ⟨h1, h2⟩ := paS_ge l (n + (1 + naW x))
    rw [paS, List.length_cons]
    refine ⟨by omega, fun s hs => ?_⟩
    rcases List.mem_cons.1 hs with rfl | hs
    · omega
    · have := h2 s hs
      omega
theorem paS_qu : ∀ (l : List ByteArray) (n : Nat), paS n l ≤ 5000 → quW l ≤ 6 * (paS n l - n)
  | [], n, _ => Nat.zero_le _
  | x :: l, n, h => by
    rw [paS] at h ⊢
    have h1 := paS_qu l _ h
    have h2 := (paS_ge l (n + (1 + naW x))).1
    have h3 : naW x = x.size := by unfold naW at *; omega
    rw [quW]
    omega
theorem enS_some : ∀ (l : List EntD) (n m : Nat), enS n l = some m → n + l.length ≤ m ∧ ∀ e ∈ l, n + enW e ≤ m ∧ enW e ≤ 5000
  | [], n, m, h => by
    rw [enS] at h
    injection h with h
    subst h
    exact ⟨Nat.le_refl _, fun e he => by cases he⟩
  | x :: l, n, m, h => by
    rw [enS] at h
    split at h
    · cases h
    · rename_i hx
      obtain ⟨h1, h2⟩ := enS_some l _ m h
      rw [List.length_cons]
      refine ⟨by omega, fun e he => ?_⟩
      rcases List.mem_cons.1 he with rfl | he
      · exact ⟨by omega, by omega⟩
      · have := h2 e he
        exact ⟨by omega, this.2⟩
structure FSm (f : FeedD) : Prop where
  id : f.id.size ≤ 5000
  title : f.title.size ≤ 5000
  link : f.link.size ≤ 5000
  path : ∀ s ∈ f.path, s.size ≤ 5000
  plen : f.path.length ≤ 5000
  qu : quW f.path ≤ 30000
  ents : ∀ e ∈ f.ents, e.id.size ≤ 5000 ∧ e.title.size ≤ 5000 ∧ e.link.size ≤ 5000 ∧ e.content.size ≤ 5000
  elen : f.ents.length ≤ 5000
theorem tlF_small : ∀ (l : List FeedD) (n : Nat), tlF n l = false → n ≤ 5000 → n + l.length ≤ 5000 ∧ ∀ f ∈ l, FSm f
  | [], n, _, hn => ⟨hn, fun f hf => by cases hf⟩
  | x :: l, n, h, hn => by
    rw [tlF] at h
    cases hE : enS (paS (n + (1 + feW x)) x.path) x.ents with
    | none =>
      rw [hE] at h
      cases h
    | some m =>
      rw [hE] at h
      dsimp only at h
      by_cases hm : 5000 < m
      · rw [if_pos hm] at h
        cases h
      · rw [if_neg hm] at h
        obtain ⟨h1, h2⟩ := enS_some _ _ _ hE
        obtain ⟨p1, p2⟩ := paS_ge x.path (n + (1 + feW x))
        have hq := paS_qu x.path (n + (1 + feW x)) (by omega)
        obtain ⟨t1, t2⟩ := tlF_small l m h (by omega)
        rw [List.length_cons]
        refine ⟨by omega, fun f hf => ?_⟩
        rcases List.mem_cons.1 hf with rfl | hf
        · have hw : feW f ≤ 5000 := by omega
          unfold feW at hw
          refine ⟨by omega, by omega, by omega, fun s hs => ?_, by omega, by omega, fun e he => ?_, by omega⟩
          · have h3 := p2 s hs
            have h4 : naW s ≤ 5000 := by omega
            unfold naW at h4
            omega
          · have h3 := (h2 e he).2
            unfold enW at h3
            exact ⟨by omega, by omega, by omega, by omega⟩
        · exact t2 f hf
theorem feed_one {w : World} {f : FeedD} {p : Option Addr} {c : Nat} {q : Option Addr} {d : Nat} (hp : NamAt w p f.path) (he : EntsAt w q f.ents) : FeedsAt (w.alloc (.cells #[.slice p f.path.length c, .string f.id, .string f.title, .string f.link, .int .i64 f.upd, .slice q f.ents.length d] 35)) (some ⟨w.heap.size, 0, none⟩) [f] := by
  have hX := FBox.new w f p c q d
  have hb : Below w.heap.size w (w.alloc (.cells #[.slice p f.path.length c, .string f.id, .string f.title, .string f.link, .int .i64 f.upd, .slice q f.ents.length d] 35)) := (Below.refl _ _).alloc (Nat.le_refl _) _
  intro i hi
  match i, hi with
  | 0, _ => exact ⟨_, p, c, q, d, rfl, hX, hp.below hb, he.below hb⟩
end Go.Proofs.YtbfalppeifkjdaaGreatDoor
end
