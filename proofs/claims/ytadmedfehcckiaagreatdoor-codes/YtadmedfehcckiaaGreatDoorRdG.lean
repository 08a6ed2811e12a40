/-
  THE READER OF BYTES: measure, WALKED.
-/
import Derived.Test.YtadmedfehcckiaaGreatDoorRdF
import Derived.Deep.RegionHeld3
namespace Go.Proofs.YtadmedfehcckiaaGreatDoor
open Go.RowKit Go.Lib

section
variable {R : Nat} {w : World} {r : RS}
set_option maxRecDepth 1000000 in
/-- The last step of measure: the width is read, the function is made. -/
theorem rd_measure (h : RSt R w r) (hl : r.mets.length ≤ 900) : Calls Tryz.prog 122 #[.pointer (some ⟨R, 0, none⟩)] w fun e w' => ∃ v, e = .returned v ∧ FuncV v ∧ RSt R w' r.measure.2 ∧ KR R w w' ∧ VOk R w.heap.size w' r.measure.2 r.measure.1 v := by
  obtain ⟨i0, hi, hz0, hz1, hz2⟩ := info_parts Tryz.infoStr
  have hpl := rd_place h
  have HM : Hid (r.measure = (.meas r.place.1 r.place.2.name.1 ((r.place.2.name.2.require (isMeasure r.place.2.name.1)).name).1 (RS.number { ((r.place.2.name.2.require (isMeasure r.place.2.name.1)).name).2 with mets := note1 ((r.place.2.name.2.require (isMeasure r.place.2.name.1)).name).2.mets ((r.place.2.name.2.require (isMeasure r.place.2.name.1)).name).1 }).1, (RS.number { ((r.place.2.name.2.require (isMeasure r.place.2.name.1)).name).2 with mets := note1 ((r.place.2.name.2.require (isMeasure r.place.2.name.1)).name).2.mets ((r.place.2.name.2.require (isMeasure r.place.2.name.1)).name).1 }).2)) := rfl
  have hl2 : ((r.place.2.name.2.require (isMeasure r.place.2.name.1)).name).2.mets.length ≤ 900 := by rw [(RS.mets_name _).1, (RS.mets_require _ _).1, (RS.mets_name _).1, (RS.mets_place _).1]; exact hl
  clear h hl
  generalize r.place = P at *
  go_enter Tryz.func122, Tryz.ntmps122
  go_wp2_with fail
  refine hpl.mono ?_
  rintro e w1 ⟨rfl, h1, k1⟩
  have hnm := rd_name h1
  have K1 : Hid _ := k1
  clear hpl h1 k1
  generalize P.2.name = K at *
  go_wp2_with fail
  refine hnm.mono ?_
  rintro e w2 ⟨rfl, h2, k2⟩
  have hbl : Below w2.heap.size w2 (w2.alloc (.cells #[.int .i64 (P.1 : Int)] 114)) := (Below.refl _ _).alloc (Nat.le_refl _) _
  have hik := code_isKind K.1 (w2.alloc (.cells #[.int .i64 (P.1 : Int)] 114))
  have hrq := rd_require (h2.later hbl) (isMeasure K.1)
  have K2 : Hid _ := (K1.out.trans k2).trans (.of_below hbl h2.lR)
  have FRE : Hid (Free R (w2.alloc (.cells #[.int .i64 (P.1 : Int)] 114)) w2.heap.size) := h2.free_new hbl (Nat.le_refl _) (by simp)
  have HA2 : Hid (One (w2.alloc (.cells #[.int .i64 (P.1 : Int)] 114)) w2.heap.size (.int .i64 (P.1 : Int)) 114) := heap_alloc_new _ _
  clear hnm h2 k2 hbl
  go_wp2_with fail
  refine hik.mono ?_
  rintro e w' ⟨rfl, hw⟩
  have hw := hw.symm
  subst hw
  clear hik
  go_wp2_with fail
  refine hrq.mono ?_
  rintro e w3 ⟨rfl, h3, k3⟩
  generalize K.2.require (isMeasure K.1) = r3 at *
  have hnm := rd_name h3
  have K3 : Hid _ := K2.out.trans k3
  have KA : Hid (KR R (w2.alloc (.cells #[.int .i64 (P.1 : Int)] 114)) w3) := k3
  clear hrq h3 k3
  generalize r3.name = M at *
  go_wp2_with fail
  refine hnm.mono ?_
  rintro e w4 ⟨rfl, h4, k4⟩
  have K4 : Hid _ := K3.out.trans k4
  have KB : Hid (KR R (w2.alloc (.cells #[.int .i64 (P.1 : Int)] 114)) w4) := KA.out.trans k4
  have H4 : Hid (RSt R w4 M.2) := h4
  obtain ⟨rv, mv, av, b1, b2, b3, b4⟩ := h4.blk
  obtain ⟨ao, cp, rfl⟩ := owns_len b3
  have c3 := cell_of_heap (i := 3) b1 rfl
  have z3 := frozen_of_heap (i := 3) b1
  have hcn := contains_any b3 (by omega) M.1
  have lR4 := h4.lR
  have HBK : Hid _ := And.intro b1 (And.intro b2 (And.intro b3 b4))
  have HNT : Hid (note1 M.2.mets M.1 = if containsS M.2.mets M.1 = true then M.2.mets else M.2.mets ++ [M.1]) := rfl
  clear hnm h4 k4 b1 b2 b3 b4
  go_wp2_with fail
  refine hcn.mono ?_
  rintro e w' ⟨rfl, hw⟩
  have hw := hw.symm
  subst hw
  clear hcn
  generalize hR5 : ({ M.2 with mets := note1 M.2.mets M.1 } : RS) = R5 at *
  cases hcx : containsS M.2.mets M.1 with
  | true =>
    have H5 : Hid (RSt R w4 R5) := by
      show RSt R w4 R5
      rw [← hR5, HNT.out, if_pos hcx]
      exact H4.out
    have K5 : Hid (KR R w w4) := K4.out
    have KB5 : Hid (KR R (w2.alloc (.cells #[.int .i64 (P.1 : Int)] 114)) w4) := KB.out
    clear hcx hR5
    have cA : w4.cell? ⟨w2.heap.size, 0, none⟩ = some (.int .i64 (P.1 : Int)) := cell_of_heap ((FRE.out.step KB5.out).2.trans HA2.out) rfl
    go_wp2_with fail
    go_region_held3 (fun w' => w'.cell? ⟨w2.heap.size, 0, none⟩ = some (.int .i64 (P.1 : Int))) (go_keep)
      (first
        | (go_at_call 117; refine (rd_number (r := R5) (H5.out.later (Below.refl _ _).drew)).mono ?_; rintro e w7 ⟨rfl, h7, k7⟩; have K7 : Hid _ := And.intro h7 (And.intro ((K5.out.trans (.of_below (Below.refl _ _).drew H5.out.lR)).trans k7) ((KB5.out.trans (.of_below (Below.refl _ _).drew H5.out.lR)).trans k7)); have c7 : w7.cell? ⟨w2.heap.size, 0, none⟩ = some (.int .i64 (P.1 : Int)) := cell_of_heap ((FRE.out.step K7.out.2.2).2.trans HA2.out) rfl; clear h7 k7)
        | (go_at_call 157; refine (mk_meas (lo := w.heap.size) K7.out.1 K7.out.2.1.size P.1 K.1 M.1 (RS.number R5).1).mono ?_; rintro e w8 ⟨v8, rfl, hf8, h8, k8, hv8⟩; have Q8 : Hid _ := And.intro hf8 (And.intro h8 (And.intro (K7.out.2.1.trans k8) hv8)); have c8 : w8.cell? ⟨w2.heap.size, 0, none⟩ = some (.int .i64 (P.1 : Int)) := cell_of_heap ((FRE.out.step (K7.out.2.2.trans k8)).2.trans HA2.out) rfl; clear hf8 h8 k8 hv8))
    go_wp2
    go_ret
    rw [HM.out]
    exact ⟨_, rfl, Q8.out⟩
  | false =>
    have HN5 : Hid (R5 = { M.2 with mets := M.2.mets ++ [M.1] }) := by
      show R5 = _
      rw [← hR5, HNT.out, if_neg (by rw [hcx]; decide)]
    clear hcx hR5
    go_wp2_with (first
        | (at_builtin; refine wpList_append_at _ rfl _ _ 32 rfl (R + 1) 9 i0 (.string { data := #[] }) 1 16 Tryz.underlying32 hi hz0 hz1 hz2 rfl (by decide) (.slice ao M.2.mets.length cp) M.2.mets.length (M.2.mets.map Value.string) rfl (HBK.out.2.2.1.alloc _) ⟨w4.heap.size, 0, none⟩ 1 1 [.string M.1] rfl rfl (cell_one8 rfl) (fun x hx => by simp at hx; subst hx; rfl) (by unfold maxLen; omega) (by omega) (by simp; omega) (by decide) ?_; intro v' w5 hown hgrow hnil; have q := H4.out.push3 HBK.out.1 HBK.out.2.1 HBK.out.2.2.1 HBK.out.2.2.2 hown hgrow hnil; have n5 : w5.heap[R]? = _ := (hgrow.block R (by simp; omega) (fun e => by have := (HBK.out.2.2.1.lt _ e.symm).1; omega)).trans (heap_alloc_old HBK.out.1); have m5 := cell_of_heap (i := 3) n5 rfl; have g5 := frozen_of_heap (i := 3) n5; have Q5 : Hid _ := q; obtain ⟨ao2, cp2, rfl⟩ := owns_len hown; clear n5 hgrow hown hnil q)
        | fail)
    obtain ⟨W5, hW5⟩ : ∃ W5, W5 = w5.setCell ⟨R, 3, none⟩ (.slice ao2 (M.2.mets.length + 1) cp2) := ⟨_, rfl⟩
    rw [← hW5] at Q5 ⊢
    have H5 : Hid (RSt R W5 R5) := by
      show RSt R W5 R5
      rw [HN5.out]
      exact Q5.out.1
    have K5 : Hid (KR R w W5) := K4.out.trans Q5.out.2
    have KB5 : Hid (KR R (w2.alloc (.cells #[.int .i64 (P.1 : Int)] 114)) W5) := KB.out.trans Q5.out.2
    clear hW5 m5 g5 c3 z3
    have cA : W5.cell? ⟨w2.heap.size, 0, none⟩ = some (.int .i64 (P.1 : Int)) := cell_of_heap ((FRE.out.step KB5.out).2.trans HA2.out) rfl
    go_wp2_with fail
    go_region_held3 (fun w' => w'.cell? ⟨w2.heap.size, 0, none⟩ = some (.int .i64 (P.1 : Int))) (go_keep)
      (first
        | (go_at_call 117; refine (rd_number (r := R5) (H5.out.later (Below.refl _ _).drew)).mono ?_; rintro e w7 ⟨rfl, h7, k7⟩; have K7 : Hid _ := And.intro h7 (And.intro ((K5.out.trans (.of_below (Below.refl _ _).drew H5.out.lR)).trans k7) ((KB5.out.trans (.of_below (Below.refl _ _).drew H5.out.lR)).trans k7)); have c7 : w7.cell? ⟨w2.heap.size, 0, none⟩ = some (.int .i64 (P.1 : Int)) := cell_of_heap ((FRE.out.step K7.out.2.2).2.trans HA2.out) rfl; clear h7 k7)
        | (go_at_call 157; refine (mk_meas (lo := w.heap.size) K7.out.1 K7.out.2.1.size P.1 K.1 M.1 (RS.number R5).1).mono ?_; rintro e w8 ⟨v8, rfl, hf8, h8, k8, hv8⟩; have Q8 : Hid _ := And.intro hf8 (And.intro h8 (And.intro (K7.out.2.1.trans k8) hv8)); have c8 : w8.cell? ⟨w2.heap.size, 0, none⟩ = some (.int .i64 (P.1 : Int)) := cell_of_heap ((FRE.out.step (K7.out.2.2.trans k8)).2.trans HA2.out) rfl; clear hf8 h8 k8 hv8))
    go_wp2
    go_ret
    rw [HM.out]
    exact ⟨_, rfl, Q8.out⟩
end
end Go.Proofs.YtadmedfehcckiaaGreatDoor
