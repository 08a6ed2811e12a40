/-
  THE PROGRAM's call AND minus, WALKED; all its levels at once.
-/
import Derived.Test.YtihmgoahobbdkaaGreatDoorCodeL
import Derived.Deep.RegionHeld3
namespace Go.Proofs.YtihmgoahobbdkaaGreatDoor
open Go.RowKit Go.Lib

section
variable {s : ByteArray} {R : Nat}

theorem name_last {I : Nat} (h : kd (toks s) I = 97) : ((toks s).getD I default).last = false := by
  have h : ((toks s).getD I default).kind = 97 := h
  simp only [Tok.last, h]
  decide

set_option maxRecDepth 1000000 in
set_option maxHeartbeats 1000000 in
theorem code_call {N : Nat} (hp : CCon s R 68 .choice N) {w : World} {I : Nat} {ms : List ByteArray} (hN : (toks s).length - (I + 1) ≤ N) (h : CStM s R w I ms) (k0 : kd (toks s) I = 97) :
    Calls Tryz.prog 201 #[.pointer (some ⟨R, 0, none⟩)] w fun e w' => ∃ o, D s (toks s) .minus I o ∧ KC R w w' ∧ CAfter s R ms w.heap.size w' o e := by
  have c2 : w.cell? ⟨R, 2, none⟩ = some (.string (tx s (toks s) I)) := by
    obtain ⟨txt, mv, h1, h2, -⟩ := h.blk
    rw [← h2 (by omega)]
    exact cell_of_heap h1 rfl
  have H0 : Hid (CStM s R w I ms) := h
  have HSB : Hid (((toks s).getD I default).last = false) := name_last k0
  have LR : Hid (R < w.heap.size) := h.lR
  have HP : Hid (CCon s R 68 .choice N) := hp
  have hne1 : ¬ w.heap.size = R := by have := LR.out; omega
  have hne2 : ¬ R = w.heap.size := by have := LR.out; omega
  clear h hp
  go_enter Tryz.func201, Tryz.ntmps201
  go_wp2_with fail
  refine Code.wp_mono (Q := Exit.then (fun a w' => ∃ b8 : Nat, a = { tmps := #[.pointer (some ⟨R, 0, none⟩), undef, .nilIface, .nilIface, .pointer (some ⟨b8, 0, none⟩), .string (tx s (toks s) I), undef, .pointer (some ⟨R, 0, none⟩), .agg #[.int .i64 (pl (toks s) I)], .pointer (some ⟨R, 0, none⟩), .pointer (some ⟨R, 0, none⟩), .pointer (some ⟨R, 1, none⟩), .pointer (some ⟨R, 2, none⟩), .string (tx s (toks s) I), undef, undef, undef, undef, undef, undef, undef, undef, undef, undef, undef, undef, undef, undef, undef, undef, undef, undef, undef, undef, undef], defers := [] } ∧ Hid (CStM s R w' I ms ∧ KC R w w' ∧ AtIs (pl (toks s) I) b8 w')) (fun _ _ _ => False)) ?imp ?reg
  case reg =>
    go_region_held3 (fun w' => w'.cell? ⟨R, 2, none⟩ = some (.string (tx s (toks s) I))) (go_keep)
      (first
        | (go_at_call 95; refine (code_place (s := s) (I := I) (ms := ms) (H0.out.later (by repeat (first | exact Below.refl _ _ | apply Below.drew | refine Below.alloc ?_ (Nat.le_refl _) _)))).mono ?_; rintro e w0 ⟨rfl, hb0⟩; have c20 : w0.cell? ⟨R, 2, none⟩ = some (.string (tx s (toks s) I)) := cell_below hb0 (by assumption); have HX0 : Hid _ := hb0; (first | (have b0 : w0.heap[w.heap.size]? = some (.cells #[.int .i64 0] 112 (0, 0)) := (hb0.block _ (by simp)).trans (heap_alloc_new w _); have q0 := cell_of_heap (i := 0) b0 rfl; have z0 := frozen_of_heap (i := 0) b0; have HB0 : Hid _ := b0; clear b0) | skip); clear hb0))
    all_goals first
      | exact ⟨w0.heap.size, rfl, (H0.out.later (HX0.out.mono (Nat.le_refl _) |> fun q => ((Below.refl w.heap.size w).drew.trans q).alloc (Nat.le_trans (Nat.le_refl _) q.size) _)), KC.of_below (((Below.refl w.heap.size w).drew.trans HX0.out).alloc HX0.out.size _) LR.out, heap_alloc_new _ _⟩
      | exact ⟨w.heap.size, rfl, H0.out.later ((((Below.refl w.heap.size w).alloc (Nat.le_refl _) _).drew.trans (HX0.out.mono (by simp))).setCell (p := ⟨w.heap.size, 0, none⟩) (Nat.le_refl _) _), KC.of_below ((((Below.refl w.heap.size w).alloc (Nat.le_refl _) _).drew.trans (HX0.out.mono (by simp))).setCell (p := ⟨w.heap.size, 0, none⟩) (Nat.le_refl _) _) LR.out, heap_set_same (i := 0) HB0.out⟩
  case imp =>
    clear c2
    intro e a w0 hq
    cases e with
    | normal => ?_
    | _ => exact hq.elim
    obtain ⟨b8, rfl, HW⟩ := hq
    have hst := code_step HW.out.1 HSB.out
    have AK : Hid (∀ w', KC R w0 w' → AtIs (pl (toks s) I) b8 w') := fun w' hk => HW.out.1.at_kept hk HW.out.2.2
    go_wp2_with fail
    refine hst.mono ?_
    rintro e w1 ⟨rfl, hs1, hb1⟩
    have AT1 : Hid _ := AK.out _ hb1
    have hb1 := HW.out.2.1.trans hb1
    have HB1 : Hid (KC R w w1) := hb1
    have htk := code_takeSign hs1 [40] (by decide)
    have AK1 : Hid (∀ w', KC R w1 w' → AtIs (pl (toks s) I) b8 w') := fun w' hk => hs1.at_kept hk AT1.out
    clear hs1 hb1 hst HW AK AT1
    go_wp2_with fail
    refine htk.mono ?_
    rintro e w2 ⟨hb2, ha⟩
    have HB2 : Hid (KC R w w2) := HB1.out.trans hb2
    have cA : w2.cell? ⟨b8, 0, none⟩ = some (.int .i64 (pl (toks s) I)) := cell_of_heap (AK1.out _ hb2) rfl
    clear hb2 htk HB1
    rcases ha with ⟨k1, rfl, hs⟩ | ⟨k1, b1, rfl, hbk⟩
    rotate_left
    · have HBK : Hid (BadAt s w2 b1 (I + 1)) := hbk
      have k1 : kd (toks s) (I + 1) ≠ 40 := fun e => not_sees k1 (sees1.2 e)
      clear hbk
      go_wp2
      go_ret2
      exact ⟨.bad (I + 1), .caB1 k0 k1, HB2.out, b1, rfl, HBK.out⟩
    have k1 : kd (toks s) (I + 1) = 40 := sees1.1 k1
    have hki := code_isKind (tx s (toks s) I) w2
    cases hm : isMeasure (tx s (toks s) I) with
    | true =>
      have hme := code_measure hs k0 k1 hm
      rw [hm] at hki
      clear hs hm
      go_wp2_with fail
      refine hki.mono ?_
      rintro e w' ⟨rfl, hw⟩
      have hw := hw.symm
      subst hw
      clear hki
      go_wp2_with fail
      refine hme.mono ?_
      rintro e w3 ⟨o, hD, hb3, ha⟩
      obtain ⟨a, b, rfl⟩ := hand_on ha
      have HA : Hid (CAfter s R ms w.heap.size w3 o (.returned (.tuple #[a, b]))) := ha.up HB2.out.size
      have HD : Hid (D s (toks s) .minus I o) := hD
      have HB : Hid (KC R w w3) := HB2.out.trans hb3
      clear ha hD hb3 hme
      go_wp2
      go_ret2
      exact ⟨o, HD.out, HB.out, HA.out⟩
    | false =>
      have hme := code_probe HP.out (by omega) hs k0 k1 hm
      rw [hm] at hki
      clear hs hm
      go_wp2_with fail
      refine hki.mono ?_
      rintro e w' ⟨rfl, hw⟩
      have hw := hw.symm
      subst hw
      clear hki
      go_wp2_with fail
      refine hme.mono ?_
      rintro e w3 ⟨o, hD, hb3, ha⟩
      obtain ⟨a, b, rfl⟩ := hand_on ha
      have HA : Hid (CAfter s R ms w.heap.size w3 o (.returned (.tuple #[a, b]))) := ha.up HB2.out.size
      have HD : Hid (D s (toks s) .minus I o) := hD
      have HB : Hid (KC R w w3) := HB2.out.trans hb3
      clear ha hD hb3 hme
      go_wp2
      go_ret2
      exact ⟨o, HD.out, HB.out, HA.out⟩

set_option maxRecDepth 1000000 in
set_option maxHeartbeats 1000000 in
theorem cminus_of {N : Nat} (hm : CCon s R 188 .minus N) (hp : CCon s R 68 .choice N) : CCon s R 188 .minus (N + 1) := by
  intro w I ms hN h
  have hN : (toks s).length - (I + 1) ≤ N := by omega
  have h45 := code_sees h [45] (by decide)
  have h40 := code_sees h [40] (by decide)
  cases b45 : seesB s I [45] with
  | true =>
    have hcl := code_negative hm hN h b45
    rw [b45] at h45
    clear h h40 b45 hm hp
    go_enter Tryz.func188, Tryz.ntmps188
    go_wp2_with fail
    refine h45.mono ?_
    rintro e w' ⟨rfl, hw⟩
    have hw := hw.symm
    subst hw
    clear h45
    go_wp2_with fail
    refine hcl.mono ?_
    rintro e w3 ⟨o, hD, hb3, ha⟩
    obtain ⟨a, b, rfl⟩ := hand_on ha
    have HA : Hid (CAfter s R ms w.heap.size w3 o (.returned (.tuple #[a, b]))) := ha
    have HD : Hid (D s (toks s) .minus I o) := hD
    have HB : Hid (KC R w w3) := hb3
    clear ha hD hb3 hcl
    go_wp2
    go_ret2
    exact ⟨o, HD.out, HB.out, HA.out⟩
  | false =>
    have n45 : kd (toks s) I ≠ 45 := fun e => not_sees b45 (sees1.2 e)
    rw [b45] at h45
    clear b45
    cases b40 : seesB s I [40] with
    | true =>
      have hcl := code_inner hp hN h b40
      rw [b40] at h40
      clear h b40 hm hp
      go_enter Tryz.func188, Tryz.ntmps188
      go_wp2_with fail
      refine h45.mono ?_
      rintro e w' ⟨rfl, hw⟩
      have hw := hw.symm
      subst hw
      clear h45
      go_wp2_with fail
      refine h40.mono ?_
      rintro e w' ⟨rfl, hw⟩
      have hw := hw.symm
      subst hw
      clear h40
      go_wp2_with fail
      refine hcl.mono ?_
      rintro e w3 ⟨o, hD, hb3, ha⟩
      obtain ⟨a, b, rfl⟩ := hand_on ha
      have HA : Hid (CAfter s R ms w.heap.size w3 o (.returned (.tuple #[a, b]))) := ha
      have HD : Hid (D s (toks s) .minus I o) := hD
      have HB : Hid (KC R w w3) := hb3
      clear ha hD hb3 hcl
      go_wp2
      go_ret2
      exact ⟨o, HD.out, HB.out, HA.out⟩
    | false =>
      have n40 : kd (toks s) I ≠ 40 := fun e => not_sees b40 (sees1.2 e)
      rw [b40] at h40
      clear b40
      obtain ⟨txt, mv, h1, -⟩ := h.blk
      have c1 := cell_of_heap (i := 1) h1 rfl
      clear h1
      by_cases k0 : kd (toks s) I = 97
      · have hcl := code_call hp hN h k0
        rw [ck3.2 k0] at c1
        clear h hm hp
        go_enter Tryz.func188, Tryz.ntmps188
        go_wp2_with fail
        refine h45.mono ?_
        rintro e w' ⟨rfl, hw⟩
        have hw := hw.symm
        subst hw
        clear h45
        go_wp2_with fail
        refine h40.mono ?_
        rintro e w' ⟨rfl, hw⟩
        have hw := hw.symm
        subst hw
        clear h40
        go_wp2_with fail
        refine hcl.mono ?_
        rintro e w3 ⟨o, hD, hb3, ha⟩
        obtain ⟨a, b, rfl⟩ := hand_on ha
        have HA : Hid (CAfter s R ms w.heap.size w3 o (.returned (.tuple #[a, b]))) := ha
        have HD : Hid (D s (toks s) .minus I o) := hD
        have HB : Hid (KC R w w3) := hb3
        clear ha hD hb3 hcl
        go_wp2
        go_ret2
        exact ⟨o, HD.out, HB.out, HA.out⟩
      · have hcl := code_takeNumber h
        have k3 : codeKind ((toks s).getD I default) ≠ 3 := fun e => k0 (ck3.1 e)
        have kb : (((codeKind ((toks s).getD I default) : Nat) : Int) == 3) = false := by rw [beq_eq_false_iff_ne]; omega
        obtain ⟨K, hK⟩ : ∃ K, codeKind ((toks s).getD I default) = K := ⟨_, rfl⟩
        rw [hK] at c1 kb
        clear h hm hp
        go_enter Tryz.func188, Tryz.ntmps188
        go_wp2_with fail
        refine h45.mono ?_
        rintro e w' ⟨rfl, hw⟩
        have hw := hw.symm
        subst hw
        clear h45
        go_wp2_with fail
        refine h40.mono ?_
        rintro e w' ⟨rfl, hw⟩
        have hw := hw.symm
        subst hw
        clear h40
        go_wp2_with fail
        refine hcl.mono ?_
        rintro e w3 ⟨hb3, ha⟩
        have HB : Hid (KC R w w3) := hb3
        clear hb3 hcl
        rcases ha with ⟨k4, rfl, hs⟩ | ⟨k4, n, b1, rfl, hbk⟩
        · have k4 : kd (toks s) I = 110 := ck2.1 k4
          have HS : Hid (CStM s R w3 (I + 1) ms) := hs
          have lR3 := hs.lR
          clear hs
          go_wp2
          go_ret2
          have bl := (Below.refl w3.heap.size w3).alloc (Nat.le_refl _)
          refine ⟨.ok [_] (I + 1), .nuGo k4, HB.out.alloc lR3 _, _, _, _, rfl, rfl, ?_, by rw [mets_num]; exact HS.out.later (bl _)⟩
          unfold CNode
          exact ⟨_, rfl, HB.out.size, heap_alloc_new _ _⟩
        · have k4 : kd (toks s) I ≠ 110 := fun e => k4 (ck2.2 e)
          have HBK : Hid (BadAt s w3 b1 I) := hbk
          clear hbk
          go_wp2
          go_ret2
          exact ⟨.bad I, .noGo (by omega), HB.out, b1, rfl, HBK.out⟩

theorem code_levels : ∀ N, CCon s R 188 .minus N ∧ CCon s R 68 .choice N
  | 0 => ⟨fun w I ms hN h => by have := h.lt; omega, fun w I ms hN h => by have := h.lt; omega⟩
  | N + 1 => by
    have ih := code_levels N
    have h1 := cminus_of ih.1 ih.2
    exact ⟨h1, cchoice_of (ccompare_of (csum_of (cproduct_of h1))) ih.2⟩
end
end Go.Proofs.YtihmgoahobbdkaaGreatDoor
