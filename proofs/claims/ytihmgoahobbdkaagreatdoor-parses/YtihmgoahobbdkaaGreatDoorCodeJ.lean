/-
  THE PROGRAM's note, WALKED.
-/
import Derived.Test.YtihmgoahobbdkaaGreatDoorCodeI
import Derived.Test.YtihmgoahobbdkaaGreatDoorAppend
namespace Go.Proofs.YtihmgoahobbdkaaGreatDoor
open Go.RowKit Go.Lib

section
variable {s : ByteArray} {R : Nat}

theorem Tryz.infoStr : (Tryz.prog.info? 9).map (fun i => (i.zero, i.size, i.bytes)) = some (some (.string { data := #[] }), 1, 16) := by kernel_rfl
theorem contains_any {w : World} {base : Nat} {mv : Value} {ms : List ByteArray} (h : w.ownsRow base 9 1 mv ms.length (ms.map Value.string)) (hl : ms.length ≤ 1000) (x : ByteArray) :
    Calls Tryz.prog 153 #[mv, .string x] w fun e w' => e = .returned (.bool (containsS ms x)) ∧ w' = w := by
  rcases h.2 with ⟨rfl, h0⟩ | ⟨g, cap, cur, rfl, hbg, hg, hnc, hcm, hcs, htake⟩
  · have : ms = [] := List.length_eq_zero_iff.1 (by simpa using h0)
    subst this
    exact (Tryz.slices_Contains_string_empty none 0 x w).mono fun e w' h => ⟨h.1, h.2⟩
  · refine (Tryz.slices_Contains_string g 0 ms.length cap ms x w (Nat.le_refl _) (by omega) ?_).mono fun e w' h => ⟨by simpa using h.1, h.2⟩
    intro j hj
    have := h.cells (g := g) rfl j (.string (ms.getD j ByteArray.empty)) (by simp [List.getD_eq_getElem?_getD, List.getElem?_eq_getElem hj])
    have ha : (⟨g, 0, none⟩ : Addr).add j = ⟨g, 0 + j, none⟩ := by
      simp only [Addr.add]
      split
      · rename_i h0
        subst h0
        rfl
      · rfl
    rw [ha] at this
    exact this

theorem note_state {w w5 : World} {I : Nat} {txt : ByteArray} {mv v' : Value} {ms : List ByteArray} {x : ByteArray} (h : CStM s R w I ms) (h1 : CBlk s R w I txt mv) (h2 : kd (toks s) I ≠ 33 → txt = tx s (toks s) I) (h3 : w.ownsRow (R + 1) 9 1 mv ms.length (ms.map Value.string)) (h4 : ms.length + 1 ≤ I)
    (hown : w5.ownsRow (R + 1) 9 1 v' (ms.length + 1) (ms.map Value.string ++ [.string x])) (hg : (w.alloc (.cells #[.string x] 9)).grownBy w5 mv.ownBlock) (hb : v'.ownBlock = mv.ownBlock ∨ v'.ownBlock = some (w.heap.size + 1)) :
    CStM s R (w5.setCell ⟨R, 4, none⟩ v') I (ms ++ [x]) ∧ KC R w (w5.setCell ⟨R, 4, none⟩ v') := by
  have lR := heap_lt h1
  have hne : some R ≠ mv.ownBlock := fun e => by have := (h3.lt _ e.symm).1; omega
  have h5 : CBlk s R w5 I txt mv := (hg.block R (by simp; omega) hne).trans ((Below.heap_alloc _ _ _ lR).trans h1)
  have e := heap_set_same (i := 4) (v := v') h5
  have hk : KC R w (w5.setCell ⟨R, 4, none⟩ v') := by
    refine ⟨hg.os, hg.tape, hg.output, by have := hg.size; simp at this ⊢; omega, fun k hk hkR hkm => ?_, ?_⟩
    · rw [Below.heap_setCell _ _ _ _ hkR]
      rw [mrow_of h1] at hkm
      exact (hg.block k (by simp; omega) (fun e => hkm e.symm)).trans (Below.heap_alloc _ _ _ hk)
    · have e2 : mrow (w5.setCell ⟨R, 4, none⟩ v') R = v'.ownBlock := by
        unfold mrow
        rw [e]
        rfl
      rw [e2, mrow_of h1]
      rcases hb with hb | hb
      · exact .inl hb
      · exact .inr ⟨_, hb, by omega⟩
  refine ⟨⟨⟨txt, v', e, h2, ?_⟩, by simp; omega, h.tab_kc hk, h.lt, h.small⟩, hk⟩
  have k1 := hown.kept (w' := w5.setCell ⟨R, 4, none⟩ v') (row := some R) ⟨rfl, rfl, rfl, by simp, fun k hk hne => by
    have hne' : k ≠ R := fun e => hne (by rw [e])
    rw [Below.heap_setCell _ _ _ _ hne']⟩ (.inr fun e => by have := (hown.lt _ e).1; omega)
  simpa using k1

set_option maxRecDepth 1000000 in
set_option maxHeartbeats 1000000 in
theorem code_note {w : World} {I : Nat} {ms : List ByteArray} (h : CStM s R w I ms) (hM : ms.length + 1 ≤ I) (x : ByteArray) :
    Calls Tryz.prog 216 #[.pointer (some ⟨R, 0, none⟩), .string x] w fun e w' => e = .returned (.tuple #[]) ∧ CStM s R w' I (note1 ms x) ∧ KC R w w' := by
  obtain ⟨i0, hi, hz0, hz1, hz2⟩ := info_parts Tryz.infoStr
  obtain ⟨txt, mv, h1, h2, h3⟩ := h.blk
  have lR := heap_lt h1
  have c4 := cell_of_heap (i := 4) h1 rfl
  have f4 := frozen_of_heap (i := 4) h1
  have hI : I ≤ 400 := by have := h.lt; have := toks_length s; have := h.small; omega
  have hcn := contains_any h3 (by omega) x
  have HN : Hid (note1 ms x = if containsS ms x = true then ms else ms ++ [x]) := rfl
  obtain ⟨ms2, hms2⟩ : ∃ m2, note1 ms x = m2 := ⟨_, rfl⟩
  rw [hms2] at HN ⊢
  clear hms2
  obtain ⟨ao, ln, cp, rfl⟩ := owns_slice h3
  have H : Hid (CStM s R w I ms) := h
  have H1 : Hid (CBlk s R w I txt (.slice ao ln cp)) := h1
  have H2 : Hid (kd (toks s) I ≠ 33 → txt = tx s (toks s) I) := h2
  have H3 : Hid (w.ownsRow (R + 1) 9 1 (.slice ao ln cp) ms.length (ms.map Value.string)) := h3
  clear h h1 h2 h3
  go_enter Tryz.func216, Tryz.ntmps216
  go_wp2_with fail
  refine hcn.mono ?_
  rintro e w1 ⟨rfl, hw⟩
  have hw := hw.symm
  subst hw
  clear hcn
  cases hcx : containsS ms x with
  | true =>
    have HM : Hid (ms2 = ms) := HN.out.trans (if_pos hcx)
    clear hcx
    go_wp2
    go_end0
    exact ⟨rfl, by rw [HM.out]; exact H.out, KC.refl _ _⟩
  | false =>
    have HM : Hid (ms2 = ms ++ [x]) := HN.out.trans (if_neg (by rw [hcx]; decide))
    clear hcx
    go_wp2_with (first | (at_builtin; refine wpList_append_at _ rfl _ _ 30 rfl (R + 1) 9 i0 (.string { data := #[] }) 1 16 Tryz.underlying30 hi hz0 hz1 hz2 rfl (by decide) (.slice ao ln cp) ms.length (ms.map Value.string) rfl (H3.out.alloc _) ⟨w.heap.size, 0, none⟩ 1 1 [.string x] rfl rfl (cell_one_new _ _ _) (fun x hx => by simp at hx; subst hx; rfl) (by unfold maxLen; omega) (by omega) (by simp; omega) (by decide) ?_; intro v' w5 hown hgrow hnil
                          have q := note_state H.out H1.out H2.out H3.out hM hown hgrow (by simpa using hnil)
                          have n5 : CBlk s R w5 I txt (.slice ao ln cp) := (hgrow.block R (by simp; omega) (fun e => by have := (H3.out.lt _ e.symm).1; omega)).trans ((Below.heap_alloc _ _ _ lR).trans H1.out)
                          have m5 := cell_of_heap (i := 4) n5 rfl
                          have g5 := frozen_of_heap (i := 4) n5
                          have Q : Hid _ := q
                          obtain ⟨ao2, ln2, cp2, rfl⟩ := owns_slice hown
                          clear n5 hgrow hown hnil q))
    go_end0
    exact ⟨rfl, by rw [HM.out]; exact Q.out.1, Q.out.2⟩
end
end Go.Proofs.YtihmgoahobbdkaaGreatDoor
