/- Packed from the texts JpL. -/
import Derived.Test.YtdooadalkbghgaaGreatDoorVJpK
section
namespace Go.Proofs.YtdooadalkbghgaaGreatDoor
open Go.RowKit Go.Maps
def OutM (w0 w : World) (b : Nat) (s : ByteArray) (e : Ending) (w' : World) : Ares → Prop
  | .err a x => e = fltE a x ∧ Below w0.heap.size w0 w'
  | .ok v j => (∃ p c, e = .returned (.slice p v.mems.length c) ∧ MemsAt (sans w' (low w.heap.size)) p 0 v.mems) ∧ Psr w' b s j ∧ Pb b w w'
set_option maxRecDepth 100000 in
set_option maxHeartbeats 16000000 in
theorem jp_members (w0 : World) (b : Nat) (s : ByteArray) (m : Nat) (hV : JqV w0 b s m) (hs : s.size ≤ 1000000) (hT : TabV w0) (hb : w0.heap.size ≤ b) (d u : Nat) (hu : u < s.size) (hum : s.size - u ≤ m + 1) (hc : s.data.toList.getD u 0 = 123) (hd : d ≤ 1000) (w : World) (hP : Psr w b s u) (hw : Below w0.heap.size w0 w) :
    Calls Tryz.prog 60 #[.pointer (some ⟨b, 0, none⟩), .int .i64 d] w fun e w' => OutM w0 w b s e w' (hA s.data.toList u d) := by
  have hmf : ∀ (fn : Fn) (first cap : Array Value) (w : World), (Instr.makeFunc fn first cap).run Tryz.prog w = .ok (.func fn first cap) w := fun _ _ _ _ => rfl
  have hmm := @run_makeMap Tryz.prog
  have hsl : s.data.toList.length = s.size := by simp
  have hblt := hP.lt
  have hwz := hw.size
  obtain ⟨Wa, hWa⟩ : ∃ Wa, Wa = (((w.alloc (.cells #[.pointer (some ⟨b, 0, none⟩)] 77)).alloc (.cells #[.int .i64 (d : Int)] 3)).alloc (.cells #[.slice none 0 0] 23)) := ⟨_, rfl⟩
  have hza : Wa.heap.size = w.heap.size + 3 := by rw [hWa]; simp
  obtain ⟨W1, hW1⟩ : ∃ W1, W1 = ((((((w.alloc (.cells #[.pointer (some ⟨b, 0, none⟩)] 77)).alloc (.cells #[.int .i64 (d : Int)] 3)).alloc (.cells #[.slice none 0 0] 23)).alloc (.map #[] 0)).alloc (.cells #[.map (some (w.heap.size + 1 + 1 + 1))] 100))) := ⟨_, rfl⟩
  have hz1 : W1.heap.size = w.heap.size + 5 := by rw [hW1]; simp
  have B1a : Below w.heap.size w Wa := by rw [hWa]; exact (((Below.refl _ _).alloc (Nat.le_refl _) _).alloc (by simp) _).alloc (by simp; omega) _
  have B2a : Below Wa.heap.size Wa W1 := by rw [hW1, ← hWa]; exact ((Below.refl _ _).alloc (Nat.le_refl _) _).alloc (by simp) _
  have B1 : Below w.heap.size w W1 := B1a.trans (B2a.mono (by omega))
  have bP : Bj W1 w.heap.size #[.pointer (some ⟨b, 0, none⟩)] 77 := Bj.more (by rw [hWa]; exact (Bj.first w _ _ _).more ((Below.refl _ _).alloc (Nat.le_refl _) _)) B2a
  have bD : Bj W1 (w.heap.size + 1) #[.int .i64 (d : Int)] 3 := Bj.more (by rw [hWa]; exact (Bj.second w _ _ _).more ((Below.refl _ _).alloc (Nat.le_refl _) _)) B2a
  have bI : Bj W1 (w.heap.size + 2) #[.slice none 0 0] 23 := Bj.more (by
    rw [hWa]
    have := Bj.new ((w.alloc (.cells #[.pointer (some ⟨b, 0, none⟩)] 77)).alloc (.cells #[.int .i64 (d : Int)] 3)) #[.slice none 0 0] 23
    simpa using this) B2a
  have bS : JkSet W1 (w.heap.size + 3) [] := by
    have := World.ownsMap_made (H := Unit) Wa Tryz.prog 9 (plainElem Tryz.prog 4)
    rw [hza] at this
    rw [hW1, ← hWa]
    exact JkSet.same (w := Wa.alloc (.map #[] 0)) (l := []) this (heap_alloc_old _ _ (by simp; omega))
  have bF : Bj W1 (w.heap.size + 4) #[.map (some (w.heap.size + 3))] 100 := by
    rw [hW1, ← hWa]
    have := Bj.new (Wa.alloc (.map #[] 0)) #[.map (some (w.heap.size + 3))] 100
    rw [World.size_alloc, hza] at this
    exact this
  have P1 : Psr W1 b s u := hP.more B1
  have hw1 : Below w0.heap.size w0 W1 := hw.trans (B1.mono hwz)
  have ca : (Wa.alloc (.map #[] 0)).heap.size = w.heap.size + 4 := by simp [hza]
  have c0 : W1.cell? ⟨w.heap.size, 0, none⟩ = some (.pointer (some ⟨b, 0, none⟩)) := bP.cell 0
  have cd : W1.cell? ⟨w.heap.size + 1, 0, none⟩ = some (.int .i64 (d : Int)) := bD.cell 0
  by_cases hdd : 100 < d
  · have cL' := jp_list_deep w0 b s 125 (.func (.func 78) #[] #[.pointer (some ⟨w.heap.size, 0, none⟩), .pointer (some ⟨w.heap.size + 1 + 1 + 1 + 1, 0, none⟩), .pointer (some ⟨w.heap.size + 1, 0, none⟩), .pointer (some ⟨w.heap.size + 1 + 1, 0, none⟩)]) (d : Int) (by omega) u W1 P1 hw1
    have cL := fun (wx : World) (hx : wx = W1) => (show Calls Tryz.prog 76 _ wx _ from hx ▸ cL')
    clear cL'
    have hH : hA s.data.toList u d = .err u 9 := by rw [hA_eq _ _ _ (by rw [hsl]; exact hu), hc, if_neg (by decide), if_neg (by decide), if_neg (by decide), if_neg (by decide), if_pos (.inr rfl), if_pos (by omega)]
    rw [hH]
    clear hV hP hw B1 B1a B2a bP bD bI bS bF P1 hw1 hH hc hsl ca c0 cd hWa hza
    go_enter Tryz.func60, Tryz.ntmps60
    go_wp2_with fail
    refine (cL _ hW1.symm).mono ?_
    rintro e w3 ⟨rfl, hB⟩
    go_wp2
    exact ⟨rfl, rfl, hB⟩
  · have hE0 : MeE w b d [] (u + 1) W1 :=
      ⟨Pj.of B1, Nat.zero_le _, bP, bD, bF, bS, by omega, _, [], bI, World.ownsRow_nil _ _ _ _, by rw [MRow]⟩
    have cL' := jp_list (MeE w b d) (stepM s.data.toList d) w0 b s 125 125 rfl 78 #[.pointer (some ⟨w.heap.size, 0, none⟩), .pointer (some ⟨w.heap.size + 1 + 1 + 1 + 1, 0, none⟩), .pointer (some ⟨w.heap.size + 1, 0, none⟩), .pointer (some ⟨w.heap.size + 1 + 1, 0, none⟩)] hs hb
      (fun args wx => by rfl) (fun st i i' wa wb h k hi => h.more k hi hblt) (fun st i st' j hi h => by have := stepM_end (by rw [hsl]; exact hi) h; rw [hsl] at this; exact this)
      u (fun st i wx hi hui hE hPx hwx => jp_member w0 b s m hV hs w d hT hblt hb (by omega) st i wx hi (by omega) hE hPx hwx)
      (d : Int) (by omega) [] hu W1 P1 hE0 hw1
    have cL := fun (wx : World) (hx : wx = W1) => (show Calls Tryz.prog 76 _ wx _ from hx ▸ cL')
    clear cL'
    have hH := hA_obj s.data.toList u d (by rw [hsl]; exact hu) hc (by omega)
    rw [hH]
    generalize loopL (stepM s.data.toList d) 125 s.data.toList (s.data.toList.length + 1) [] true (u + 1) = T at *
    clear hV hP hw B1 B1a B2a bP bD bI bS bF P1 hw1 hH hc hsl hE0 ca c0 cd hWa hza
    cases T with
    | err a x =>
      simp only [OutL] at cL
      go_enter Tryz.func60, Tryz.ntmps60
      go_wp2_with fail
      refine (cL _ hW1.symm).mono ?_
      rintro e w3 ⟨rfl, hB⟩
      go_wp2
      exact ⟨rfl, rfl, hB⟩
    | ok st j =>
      simp only [OutL] at cL
      go_enter Tryz.func60, Tryz.ntmps60
      go_wp2_with fail
      refine (cL _ hW1.symm).mono ?_
      rintro e w3 ⟨rfl, P3, hj3, E3, W3⟩
      obtain ⟨v, xs, hv, ho, hr⟩ := E3.row
      obtain ⟨A0, C0, rfl⟩ := jrow_val ho
      have cv : w3.cell? ⟨w.heap.size + 1 + 1, 0, none⟩ = some (.slice A0 st.length C0) := hv.cell 0
      have hK := Lib.hid E3.kept
      have hP3 := Lib.hid P3
      have HI := Lib.hid (mems_low (B := w.heap.size + 5) (B' := w.heap.size) (by omega) (MRow.whole ho hr rfl))
      clear hv ho hr E3 P3 W3
      go_wp2
      go_ret
      exact ⟨⟨A0, C0, rfl, HI.out⟩, hP3.out, hK.out⟩
end Go.Proofs.YtdooadalkbghgaaGreatDoor
end
