/-
  THE PROGRAM's negative AND inner, WALKED.
-/
import Derived.Test.YtaghcjpoihkpjaaGreatDoorJM8
import Derived.Test.YtaghcjpoihkpjaaGreatDoorJM6
namespace Go.Proofs.YtaghcjpoihkpjaaGreatDoor
open Go.RowKit Go.Lib

section
variable {s : ByteArray} {R : Nat}

set_option maxRecDepth 1000000 in
set_option maxHeartbeats 1000000 in
theorem code_negative {N : Nat} (hp : CCon s R 174 .minus N) {w : World} {I : Nat} {ms : List ByteArray} (hN : (toks s).length - (I + 1) ≤ N) (h : CStM s R w I ms) (hb : seesB s I [45] = true) :
    Calls Tryz.prog 186 #[.pointer (some ⟨R, 0, none⟩)] w fun e w' => ∃ o, D s (toks s) .minus I o ∧ KC R w w' ∧ CAfter s R ms w.heap.size w' o e := by
  have hst := code_step h (sign_last2 (by decide) hb)
  have HP : Hid (CCon s R 174 .minus N) := hp
  have HK : Hid (kd (toks s) I = 45) := sees1.1 hb
  clear h hp hb
  go_enter Tryz.func186, Tryz.ntmps186
  go_wp2_with fail
  refine hst.mono ?_
  rintro e w1 ⟨rfl, hs1, hb1⟩
  have hpc := HP.out w1 (I + 1) ms hN hs1
  have lR1 : R < w1.heap.size := by obtain ⟨a, b, c, -⟩ := hs1.blk; exact heap_lt c
  have HB1 : Hid (KC R w w1) := hb1
  clear hs1 hb1 hst
  go_wp2_with fail
  refine hpc.mono ?_
  rintro e w2 ⟨o, hD, hb2, ha⟩
  have HD : Hid (D s (toks s) .minus (I + 1) o) := hD
  have HB2 : Hid (KC R w w2) := HB1.out.trans hb2
  have hs2 := hb2.size
  clear hD hb2 hpc
  cases o with
  | ok ts J =>
    obtain ⟨t, ty2, pa2, rfl, rfl, hn, hs⟩ := ha
    have HS : Hid (CStM s R w2 J (notes ms (mets t))) := hs
    have HN : Hid (CNode (Hi w.heap.size) w2 t (.iface ty2 (.pointer pa2))) := hn.up HB1.out.size
    clear hs hn
    go_wp2
    go_ret2
    have bl := (Below.refl w2.heap.size w2).alloc (Nat.le_refl _)
    refine ⟨.ok [_] J, .ngGo HK.out HD.out, HB2.out.alloc (by omega) _, _, _, _, rfl, rfl, ?_, by rw [mets_neg]; exact HS.out.later (bl _)⟩
    unfold CNode
    exact ⟨_, _, rfl, HB2.out.size, heap_alloc_new _ _, HN.out.below (bl _)⟩
  | bad J =>
    obtain ⟨b, rfl, hbk⟩ := ha
    have HBK : Hid (w2.heap[b]? = some (.cells #[.int .i64 (pl (toks s) J)] 107 (0, 0))) := hbk
    clear hbk
    go_wp2
    go_ret2
    exact ⟨.bad J, .ngBad HK.out HD.out, HB2.out, b, rfl, HBK.out⟩

set_option maxRecDepth 1000000 in
set_option maxHeartbeats 1000000 in
theorem code_inner {N : Nat} (hp : CCon s R 45 .choice N) {w : World} {I : Nat} {ms : List ByteArray} (hN : (toks s).length - (I + 1) ≤ N) (h : CStM s R w I ms) (hb : seesB s I [40] = true) :
    Calls Tryz.prog 187 #[.pointer (some ⟨R, 0, none⟩)] w fun e w' => ∃ o, D s (toks s) .minus I o ∧ KC R w w' ∧ CAfter s R ms w.heap.size w' o e := by
  have hst := code_step h (sign_last2 (by decide) hb)
  have HP : Hid (CCon s R 45 .choice N) := hp
  have HK : Hid (kd (toks s) I = 40) := sees1.1 hb
  clear h hp hb
  go_enter Tryz.func187, Tryz.ntmps187
  go_wp2_with fail
  refine hst.mono ?_
  rintro e w1 ⟨rfl, hs1, hb1⟩
  have hpc := HP.out w1 (I + 1) ms hN hs1
  have HB1 : Hid (KC R w w1) := hb1
  clear hs1 hb1 hst
  go_wp2_with fail
  refine hpc.mono ?_
  rintro e w2 ⟨o, hD, hb2, ha⟩
  have HD : Hid (D s (toks s) .choice (I + 1) o) := hD
  have HB2 : Hid (KC R w w2) := HB1.out.trans hb2
  clear hD hb2 hpc
  cases o with
  | ok ts J =>
    obtain ⟨t, ty2, pa2, rfl, rfl, hn, hs⟩ := ha
    have htk := code_takeSign hs [41] (by decide)
    have HN : Hid (∀ w', KC R w2 w' → CNode (Hi w.heap.size) w' t (.iface ty2 (.pointer pa2))) := fun w' hk => (hn.up HB1.out.size).moves (hs.nmoves hk)
    clear hs hn
    go_wp2_with fail
    refine htk.mono ?_
    rintro e w3 ⟨hb3, ha⟩
    have HB3 : Hid (KC R w w3) := HB2.out.trans hb3
    have HN3 : Hid (CNode (Hi w.heap.size) w3 t (.iface ty2 (.pointer pa2))) := HN.out _ hb3
    clear hb3 htk HN
    rcases ha with ⟨hb, rfl, hs⟩ | ⟨hb, b, rfl, hbk⟩
    · have HS : Hid (CStM s R w3 (J + 1) (notes ms (mets t))) := hs
      have HK2 : Hid (kd (toks s) J = 41) := sees1.1 hb
      clear hs hb
      go_wp2
      go_ret2
      exact ⟨.ok [t] (J + 1), .paGo HK.out HD.out HK2.out, HB3.out, _, _, _, rfl, rfl, HN3.out, HS.out⟩
    · have HBK : Hid (w3.heap[b]? = some (.cells #[.int .i64 (pl (toks s) J)] 107 (0, 0))) := hbk
      have HK2 : Hid (kd (toks s) J ≠ 41) := fun k => not_sees hb (sees1.2 k)
      clear hbk hb
      go_wp2
      go_ret2
      exact ⟨.bad J, .paB1 HK.out HD.out HK2.out, HB3.out, b, rfl, HBK.out⟩
  | bad J =>
    obtain ⟨b, rfl, hbk⟩ := ha
    have HBK : Hid (w2.heap[b]? = some (.cells #[.int .i64 (pl (toks s) J)] 107 (0, 0))) := hbk
    clear hbk
    go_wp2
    go_ret2
    exact ⟨.bad J, .paBad HK.out HD.out, HB2.out, b, rfl, HBK.out⟩
end
end Go.Proofs.YtaghcjpoihkpjaaGreatDoor
namespace Go.Proofs.YtaghcjpoihkpjaaGreatDoor
open Go.RowKit Go.Lib

section
variable {s : ByteArray} {R : Nat}

theorem Tryz.infoStr : (Tryz.prog.info? 9).map (fun i => (i.zero, i.size, i.bytes)) = some (some (.string { data := #[] }), 1, 16) := by kernel_rfl
theorem contains_any {w : World} {base : Nat} {mv : Value} {ms : List ByteArray} (h : w.ownsRow base 9 1 mv ms.length (ms.map Value.string)) (hl : ms.length ≤ 1000) (x : ByteArray) :
    Calls Tryz.prog 122 #[mv, .string x] w fun e w' => e = .returned (.bool (containsS ms x)) ∧ w' = w := by
  rcases h.2 with ⟨rfl, h0⟩ | ⟨g, cap, cur, rfl, hbg, hg, hnc, hcm, hcs, htake⟩
  · have : ms = [] := List.length_eq_zero_iff.1 (by simpa using h0)
    subst this
    exact (Tryz.slices_Contains_string_empty none 0 x w).mono fun e w' h => ⟨h.1, h.2⟩
  · refine (Tryz.slices_Contains_string g 0 ms.length cap ms x w (Nat.le_refl _) (by omega) ?_).mono fun e w' h => ⟨by simpa using h.1, h.2⟩
    intro j hj
    have := h.cells (g := g) rfl j (.string (ms.getD j ByteArray.empty)) (by simp [List.getD_eq_getElem?_getD, List.getElem?_eq_getElem hj])
    have ha : (⟨g, 0, none⟩ : Addr).add j = ⟨g, 0 + j, none⟩ := by
      simp only [Addr.add]
      split
      · rename_i h0
        subst h0
        rfl
      · rfl
    rw [ha] at this
    exact this

theorem note_state {w w5 : World} {I : Nat} {txt : ByteArray} {mv v' : Value} {ms : List ByteArray} {x : ByteArray} (h : CStM s R w I ms) (h1 : CBlk s R w I txt mv) (h2 : kd (toks s) I ≠ 33 → txt = tx s (toks s) I) (h3 : w.ownsRow (R + 1) 9 1 mv ms.length (ms.map Value.string)) (h4 : ms.length + 1 ≤ I)
    (hown : w5.ownsRow (R + 1) 9 1 v' (ms.length + 1) (ms.map Value.string ++ [.string x])) (hg : (w.alloc (.cells #[.string x] 9)).grownBy w5 mv.ownBlock) (hb : v'.ownBlock = mv.ownBlock ∨ v'.ownBlock = some (w.heap.size + 1)) :
    CStM s R (w5.setCell ⟨R, 4, none⟩ v') I (ms ++ [x]) ∧ KC R w (w5.setCell ⟨R, 4, none⟩ v') := by
  have lR := heap_lt h1
  have hne : some R ≠ mv.ownBlock := fun e => by have := (h3.lt _ e.symm).1; omega
  have h5 : CBlk s R w5 I txt mv := (hg.block R (by simp; omega) hne).trans ((Below.heap_alloc _ _ _ lR).trans h1)
  have e := heap_set_same (i := 4) (v := v') h5
  have hk : KC R w (w5.setCell ⟨R, 4, none⟩ v') := by
    refine ⟨hg.os, hg.tape, hg.output, by have := hg.size; simp at this ⊢; omega, fun k hk hkR hkm => ?_, ?_⟩
    · rw [Below.heap_setCell _ _ _ _ hkR]
      rw [mrow_of h1] at hkm
      exact (hg.block k (by simp; omega) (fun e => hkm e.symm)).trans (Below.heap_alloc _ _ _ hk)
    · have e2 : mrow (w5.setCell ⟨R, 4, none⟩ v') R = v'.ownBlock := by
        unfold mrow
        rw [e]
        rfl
      rw [e2, mrow_of h1]
      rcases hb with hb | hb
      · exact .inl hb
      · exact .inr ⟨_, hb, by omega⟩
  refine ⟨⟨⟨txt, v', e, h2, ?_⟩, by simp; omega, h.tab_kc hk, h.lt, h.small⟩, hk⟩
  have k1 := hown.kept (w' := w5.setCell ⟨R, 4, none⟩ v') (row := some R) ⟨rfl, rfl, rfl, by simp, fun k hk hne => by
    have hne' : k ≠ R := fun e => hne (by rw [e])
    rw [Below.heap_setCell _ _ _ _ hne']⟩ (.inr fun e => by have := (hown.lt _ e).1; omega)
  simpa using k1

set_option maxRecDepth 1000000 in
set_option maxHeartbeats 1000000 in
theorem code_note {w : World} {I : Nat} {ms : List ByteArray} (h : CStM s R w I ms) (hM : ms.length + 1 ≤ I) (x : ByteArray) :
    Calls Tryz.prog 205 #[.pointer (some ⟨R, 0, none⟩), .string x] w fun e w' => e = .returned (.tuple #[]) ∧ CStM s R w' I (note1 ms x) ∧ KC R w w' := by
  obtain ⟨i0, hi, hz0, hz1, hz2⟩ := info_parts Tryz.infoStr
  obtain ⟨txt, mv, h1, h2, h3⟩ := h.blk
  have lR := heap_lt h1
  have c4 := cell_of_heap (i := 4) h1 rfl
  have f4 := frozen_of_heap (i := 4) h1
  have hI : I ≤ 400 := by have := h.lt; have := toks_length s; have := h.small; omega
  have hcn := contains_any h3 (by omega) x
  have HN : Hid (note1 ms x = if containsS ms x = true then ms else ms ++ [x]) := rfl
  obtain ⟨ms2, hms2⟩ : ∃ m2, note1 ms x = m2 := ⟨_, rfl⟩
  rw [hms2] at HN ⊢
  clear hms2
  obtain ⟨ao, ln, cp, rfl⟩ := owns_slice h3
  have H : Hid (CStM s R w I ms) := h
  have H1 : Hid (CBlk s R w I txt (.slice ao ln cp)) := h1
  have H2 : Hid (kd (toks s) I ≠ 33 → txt = tx s (toks s) I) := h2
  have H3 : Hid (w.ownsRow (R + 1) 9 1 (.slice ao ln cp) ms.length (ms.map Value.string)) := h3
  clear h h1 h2 h3
  go_enter Tryz.func205, Tryz.ntmps205
  go_wp2_with fail
  refine hcn.mono ?_
  rintro e w1 ⟨rfl, hw⟩
  have hw := hw.symm
  subst hw
  clear hcn
  cases hcx : containsS ms x with
  | true =>
    have HM : Hid (ms2 = ms) := HN.out.trans (if_pos hcx)
    clear hcx
    go_wp2
    go_end0
    exact ⟨rfl, by rw [HM.out]; exact H.out, KC.refl _ _⟩
  | false =>
    have HM : Hid (ms2 = ms ++ [x]) := HN.out.trans (if_neg (by rw [hcx]; decide))
    clear hcx
    go_wp2_with (first | (at_builtin; refine wpList_append_at _ rfl _ _ 91 rfl (R + 1) 9 i0 (.string { data := #[] }) 1 16 Tryz.underlying91 hi hz0 hz1 hz2 rfl (by decide) (.slice ao ln cp) ms.length (ms.map Value.string) rfl (H3.out.alloc _) ⟨w.heap.size, 0, none⟩ 1 1 [.string x] rfl rfl (cell_one_new _ _ _) (fun x hx => by simp at hx; subst hx; rfl) (by unfold maxLen; omega) (by omega) (by simp; omega) (by decide) ?_; intro v' w5 hown hgrow hnil
                          have q := note_state H.out H1.out H2.out H3.out hM hown hgrow (by simpa using hnil)
                          have n5 : CBlk s R w5 I txt (.slice ao ln cp) := (hgrow.block R (by simp; omega) (fun e => by have := (H3.out.lt _ e.symm).1; omega)).trans ((Below.heap_alloc _ _ _ lR).trans H1.out)
                          have m5 := cell_of_heap (i := 4) n5 rfl
                          have g5 := frozen_of_heap (i := 4) n5
                          have Q : Hid _ := q
                          obtain ⟨ao2, ln2, cp2, rfl⟩ := owns_slice hown
                          clear n5 hgrow hown hnil q))
    go_end0
    exact ⟨rfl, by rw [HM.out]; exact Q.out.1, Q.out.2⟩
end
end Go.Proofs.YtaghcjpoihkpjaaGreatDoor
namespace Go.Proofs.YtaghcjpoihkpjaaGreatDoor
open Go.RowKit Go.Lib

section
variable {s : ByteArray} {R : Nat}

/-- A block with the place where reading failed. -/
abbrev BadAt (s : ByteArray) (w : World) (b J : Nat) : Prop := w.heap[b]? = some (.cells #[.int .i64 (pl (toks s) J)] 107 (0, 0))

set_option maxRecDepth 1000000 in
set_option maxHeartbeats 1000000 in
theorem code_measure {w : World} {I : Nat} {ms : List ByteArray} (h : CStM s R w (I + 2) ms) (k0 : kd (toks s) I = 97) (k1 : kd (toks s) (I + 1) = 40) (km : isMeasure (tx s (toks s) I) = true) :
    Calls Tryz.prog 199 #[.pointer (some ⟨R, 0, none⟩), .agg #[.int .i64 (pl (toks s) I)], .string (tx s (toks s) I)] w fun e w' => ∃ o, D s (toks s) .minus I o ∧ KC R w w' ∧ CAfter s R ms w.heap.size w' o e := by
  have hb0 : Below w.heap.size w (w.alloc (.cells #[.int .i64 (pl (toks s) I)] 105)) := (Below.refl _ _).alloc (Nat.le_refl _) _
  have h0 := h.later hb0
  have htk := code_take h0 3 (.inr rfl)
  have HB0 : Hid (KC R w (w.alloc (.cells #[.int .i64 (pl (toks s) I)] 105))) := KC.of_below hb0 (by obtain ⟨a, b, c, -⟩ := h.blk; exact heap_lt c)
  have AK0 : Hid (∀ w', KC R (w.alloc (.cells #[.int .i64 (pl (toks s) I)] 105)) w' → AtIs (pl (toks s) I) w.heap.size w') := fun w' hk => h0.at_kept hk (heap_alloc_new _ _)
  have hml : ms.length ≤ I + 2 := h.len
  have hI : I ≤ 400 := by have := h.lt; have := toks_length s; have := h.small; omega
  clear h h0 hb0
  go_enter Tryz.func199, Tryz.ntmps199
  go_wp2_with fail
  refine htk.mono ?_
  rintro e w1 ⟨hb1, ha⟩
  have AT1 : Hid _ := AK0.out _ hb1
  have HB1 : Hid (KC R w w1) := HB0.out.trans hb1
  clear hb1 htk AK0 HB0
  rcases ha with ⟨k2, rfl, hs⟩ | ⟨k2, b1, rfl, hbk⟩
  rotate_left
  · have HBK : Hid (BadAt s w1 b1 (I + 2)) := hbk
    have k2 : kd (toks s) (I + 2) ≠ 97 := fun e => k2 (ck3.2 e)
    clear hbk
    go_wp2
    go_ret2
    exact ⟨.bad (I + 2), .meB2 k0 k1 km k2, HB1.out, b1, rfl, HBK.out⟩
  have k2 : kd (toks s) (I + 2) = 97 := ck3.1 k2
  have htk := code_takeSign hs [44] (by decide)
  have AK1 : Hid (∀ w', KC R w1 w' → AtIs (pl (toks s) I) w.heap.size w') := fun w' hk => hs.at_kept hk AT1.out
  clear hs AT1
  go_wp2_with fail
  refine htk.mono ?_
  rintro e w2 ⟨hb2, ha⟩
  have HB2 : Hid (KC R w w2) := HB1.out.trans hb2
  have AT2 : Hid _ := AK1.out _ hb2
  clear hb2 htk HB1 AK1
  rcases ha with ⟨k3, rfl, hs⟩ | ⟨k3, b1, rfl, hbk⟩
  rotate_left
  · have HBK : Hid (BadAt s w2 b1 (I + 3)) := hbk
    have k3 : kd (toks s) (I + 3) ≠ 44 := fun e => not_sees k3 (sees1.2 e)
    clear hbk
    go_wp2
    go_ret2
    exact ⟨.bad (I + 3), .meB3 k0 k1 km k2 k3, HB2.out, b1, rfl, HBK.out⟩
  have k3 : kd (toks s) (I + 3) = 44 := sees1.1 k3
  have htk := code_takeNumber hs
  have AK2 : Hid (∀ w', KC R w2 w' → AtIs (pl (toks s) I) w.heap.size w') := fun w' hk => hs.at_kept hk AT2.out
  clear hs AT2
  go_wp2_with fail
  refine htk.mono ?_
  rintro e w3 ⟨hb3, ha⟩
  have HB3 : Hid (KC R w w3) := HB2.out.trans hb3
  have AT3 : Hid _ := AK2.out _ hb3
  clear hb3 htk HB2 AK2
  rcases ha with ⟨k4, rfl, hs⟩ | ⟨k4, n, b1, rfl, hbk⟩
  rotate_left
  · have HBK : Hid (BadAt s w3 b1 (I + 4)) := hbk
    have k4 : kd (toks s) (I + 4) ≠ 110 := fun e => k4 (ck2.2 e)
    clear hbk
    go_wp2
    go_ret2
    exact ⟨.bad (I + 4), .meB4 k0 k1 km k2 k3 k4, HB3.out, b1, rfl, HBK.out⟩
  have k4 : kd (toks s) (I + 4) = 110 := ck2.1 k4
  have htk := code_takeSign hs [41] (by decide)
  have AK3 : Hid (∀ w', KC R w3 w' → AtIs (pl (toks s) I) w.heap.size w') := fun w' hk => hs.at_kept hk AT3.out
  clear hs AT3
  go_wp2_with fail
  refine htk.mono ?_
  rintro e w4 ⟨hb4, ha⟩
  have HB4 : Hid (KC R w w4) := HB3.out.trans hb4
  have AT4 : Hid _ := AK3.out _ hb4
  clear hb4 htk HB3 AK3
  rcases ha with ⟨k5, rfl, hs⟩ | ⟨k5, b1, rfl, hbk⟩
  rotate_left
  · have HBK : Hid (BadAt s w4 b1 (I + 5)) := hbk
    have k5 : kd (toks s) (I + 5) ≠ 41 := fun e => not_sees k5 (sees1.2 e)
    clear hbk
    go_wp2
    go_ret2
    exact ⟨.bad (I + 5), .meB5 k0 k1 km k2 k3 k4 k5, HB4.out, b1, rfl, HBK.out⟩
  have k5 : kd (toks s) (I + 5) = 41 := sees1.1 k5
  have hnt := code_note hs (by omega) (tx s (toks s) (I + 2))
  have AK4 : Hid (∀ w', KC R w4 w' → AtIs (pl (toks s) I) w.heap.size w') := fun w' hk => hs.at_kept hk AT4.out
  clear hs AT4
  go_wp2_with fail
  refine hnt.mono ?_
  rintro e w5 ⟨rfl, hs, hb5⟩
  have HB5 : Hid (KC R w w5) := HB4.out.trans hb5
  have cA : w5.cell? ⟨w.heap.size, 0, none⟩ = some (.int .i64 (pl (toks s) I)) := cell_of_heap (AK4.out _ hb5) rfl
  have HS : Hid (CStM s R w5 (I + 5 + 1) (note1 ms (tx s (toks s) (I + 2)))) := hs
  have lR : R < w5.heap.size := by obtain ⟨a, b, c, -⟩ := hs.blk; exact heap_lt c
  clear hs hb5 hnt HB4
  go_wp2
  go_ret2
  have bl := (Below.refl w5.heap.size w5).alloc (Nat.le_refl _)
  refine ⟨.ok [_] (I + 6), .meGo k0 k1 km k2 k3 k4 k5, HB5.out.alloc lR _, _, _, _, rfl, rfl, ?_, by rw [mets_meas, notes_one]; exact HS.out.later (bl _)⟩
  unfold CNode
  exact ⟨_, rfl, HB5.out.size, heap_alloc_new _ _⟩
end
end Go.Proofs.YtaghcjpoihkpjaaGreatDoor
