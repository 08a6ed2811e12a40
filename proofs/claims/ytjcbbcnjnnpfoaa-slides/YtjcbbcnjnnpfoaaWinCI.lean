/-
  A WINDOW OF int64: Advance, WALKED.
-/
import Derived.Test.YtjcbbcnjnnpfoaaWinBI
namespace Go.Proofs.Ytjcbbcnjnnpfoaa
open Go.RowKit Go.Lib

/-- The end of Advance: the samples are cut, and stored. -/
theorem cutI {W w2 w3 : World} {R : Nat} {wid t : Int} {k : List (Int × Int)} {mv mv' : Value} {i : Nat} (h : WinI W R wid t k mv) (hb : Below W.heap.size W w2) (hown : w3.ownsRow 0 84 2 mv' (k.drop i).length (sCells (Value.int .i64) (k.drop i))) (he : mv'.ownBlock = mv.ownBlock) (ho : Only (fun b => mv.ownBlock = some b) w2 w3) :
    WinI (w3.setCell ⟨R, 2, none⟩ mv') R wid t (k.drop i) mv' ∧ Only (Mine R mv) W (w3.setCell ⟨R, 2, none⟩ mv') := by
  have h2 := h.below hb
  have hne := row_ne h2.blk h2.own (by decide)
  have b3 := ho.heap h2.blk hne
  refine ⟨⟨heap_set_same (i := 2) (v := mv') b3, ?_, h.wid64, h.tm64, fun x hx => h.times x (List.mem_of_mem_drop hx), by rw [List.length_drop]; have := h.len; omega⟩, ?_⟩
  · exact ((Only.refl (fun b => b = R) w3).setCell (a := ⟨R, 2, none⟩) (fun _ => rfl) mv').owns hown (fun g hg e => by subst e; exact hne (he ▸ hg))
  · exact (((Only.of_below hb).trans ho (fun b _ q => .inr q)).setCell (a := ⟨R, 2, none⟩) (fun _ => .inl rfl) mv')

set_option maxRecDepth 1000000 in
set_option maxHeartbeats 1000000 in
theorem advanceI {w : World} {R : Nat} {wid tm : Int} {k : List (Int × Int)} {mv : Value} (h : WinI w R wid tm k mv) (t : Int) (ht : I64 t) (hle : tm ≤ t) (hts : ∀ x ∈ k, x.1 ≤ t) :
    Calls Try.prog 25 #[.pointer (some ⟨R, 0, none⟩), .int .i64 t] w fun e w' => e = .returned (.bool true) ∧ ∃ mv', WinI w' R wid t (trim wid t k) mv' ∧ mv'.ownBlock = mv.ownBlock ∧ Only (Mine R mv) w w' := by
  have b0 := h.blk
  have c1 := cell_of_heap (i := 1) b0 rfl
  have c2 := cell_of_heap (i := 2) b0 rfl
  have f1 := frozen_of_heap (i := 1) b0
  obtain ⟨ao, cp, rfl⟩ := owns_slice h.own
  have hlt : ¬ t < tm := by omega
  have hkl := h.len
  -- the window at its new time
  have b1 : (w.setCell ⟨R, 1, none⟩ (.int .i64 t)).heap[R]? = some (.cells #[.int .i64 wid, .int .i64 t, .slice ao k.length cp] 47 (0, 0)) := heap_set_same (i := 1) (v := .int .i64 t) b0
  have o1 : (w.setCell ⟨R, 1, none⟩ (.int .i64 t)).ownsRow 0 84 2 (.slice ao k.length cp) k.length (sCells (Value.int .i64) k) :=
    ((Only.refl (fun b => b = R) w).setCell (a := ⟨R, 1, none⟩) (fun _ => rfl) (.int .i64 t)).owns h.own (fun g hg e => by subst e; exact row_ne b0 h.own (by decide) hg)
  have H1 : Hid (WinI (w.setCell ⟨R, 1, none⟩ (.int .i64 t)) R wid t k (.slice ao k.length cp)) := ⟨b1, o1, h.wid64, ht, h.times, h.len⟩
  have HTS : Hid (∀ x ∈ k, x.1 ≤ t) := hts
  clear hts
  have d2 := cell_of_heap (i := 2) b1 rfl
  obtain ⟨W, hW⟩ : ∃ W, W = w.setCell ⟨R, 1, none⟩ (.int .i64 t) := ⟨_, rfl⟩
  rw [← hW] at b1 o1 H1 d2
  have HO : Hid (Only (Mine R (.slice ao k.length cp)) w W) := by rw [hW]; exact (Only.refl _ w).setCell (a := ⟨R, 1, none⟩) (fun _ => .inl rfl) _
  clear o1 h b0
  generalize hkn : k.length = n at *
  go_enter Try.func25, Try.ntmps25
  go_wp2_with fail
  all_goals
    rw [← hW]
    go_loopw [5] (fun v wr => ∃ i : Nat, v = .int .i64 i ∧ n - 16 ≤ i ∧ i ≤ n ∧ Hid (∀ j, n - 16 ≤ j → j < i → ∀ x, k[j]? = some x → inW wid t x.1 = false) ∧ Hid (Below W.heap.size W wr)) (fun v _ => n - (intOf v).toNat)
    case atStart => exact ⟨n - 16, by congr 1; omega, Nat.le_refl _, by omega, fun j h1 h2 => by omega, Below.refl _ _⟩
    case round =>
      obtain ⟨i, rfl, hi1, hi2, HN, HB⟩ := hrel
      have H2 : Hid (WinI wr R wid t k (.slice ao n cp)) := H1.out.below HB.out
      have e2 : wr.cell? ⟨R, 2, none⟩ = some (.slice ao n cp) := cell_of_heap (i := 2) H2.out.blk rfl
      have hdl : ∀ w2, Below wr.heap.size wr w2 → Calls Try.prog 40 #[.slice ao n cp, .int .i64 0, .int .i64 i] w2 _ := fun w2 hb2 => deleteI (by rw [← hkn] at H2 ⊢; exact (H2.out.below hb2).own) (by omega) i (by omega)
      have HDL : Hid _ := hdl
      rcases Nat.lt_or_ge i n with hlt2 | hge
      · obtain ⟨x, hx⟩ : ∃ x, k[i]? = some x := ⟨k[i], List.getElem?_eq_getElem (by omega)⟩
        obtain ⟨g, cp', he, q1, q2⟩ := H2.out.cells hx
        injection he with he1 he2 he3
        subst he1
        have htm := And.intro (H2.out.times x (List.mem_of_getElem? hx)) (HTS.out x (List.mem_of_getElem? hx))
        have hre := reachesI H2.out x.1 x.2 htm.1 htm.2
        obtain ⟨x1, x2⟩ := x
        dsimp only at q1 q2 hre
        clear he2 he3 c1 c2 d2 b1 f1
        have hlt3 : (i : Int) < n := by omega
        have HX : Hid (k[i]? = some (x1, x2)) := hx
        clear hx htm
        cases hin : inW wid t x1 with
        | true =>
          rw [hin] at hre
          have HI : Hid (∀ x, k[i]? = some x → inW wid t x.1 = true) := fun x hx => by rw [HX.out] at hx; injection hx with hx; subst hx; exact hin
          clear hin hdl
          go_wp2_with fail
          refine hre.mono ?_
          rintro e w2 ⟨rfl, hb2⟩
          have HB2 : Hid (Below wr.heap.size wr w2) := hb2
          clear hre q1 q2 e2 hb2
          have hdl := HDL.out w2 HB2.out
          have e3 : w2.cell? ⟨R, 2, none⟩ = some (.slice (some ⟨g, 0, none⟩) n cp) := cell_of_heap (H2.out.below HB2.out).blk rfl
          go_wp2_with fail
          refine hdl.mono ?_
          rintro e w3 ⟨mv', rfl, hown, he, ho⟩
          have hQ := cutI H1.out (HB.out.trans (HB2.out.mono HB.out.size)) hown he ho
          have h3 := ho.heap (H2.out.below HB2.out).blk (row_ne (H2.out.below HB2.out).blk (H2.out.below HB2.out).own (by decide))
          have m3 := cell_of_heap (i := 2) h3 rfl
          have f3 := frozen_of_heap (i := 2) h3
          obtain ⟨ao', cp'', rfl⟩ := owns_slice hown
          generalize (k.drop i).length = m at *
          have HQ : Hid _ := hQ
          have HE : Hid _ := he
          clear hQ he ho hown h3 hdl e3
          go_wp2
          go_ret
          rw [trim_at (by omega) (by omega) (by rw [hkn]; exact HN.out) HI.out]
          exact ⟨rfl, _, HQ.out.1, HE.out, HO.out.trans HQ.out.2 (fun b _ q => q)⟩
        | false =>
          rw [hin] at hre
          have HN2 : Hid (∀ j, n - 16 ≤ j → j < i + 1 → ∀ x, k[j]? = some x → inW wid t x.1 = false) := fun j h1 h2 x hx => by
            rcases Nat.lt_or_ge j i with h3 | h3
            · exact HN.out j h1 h3 x hx
            · obtain rfl : j = i := by omega
              rw [HX.out] at hx
              injection hx with hx
              subst hx
              exact hin
          clear hin hdl HDL
          go_wp2_with fail
          refine hre.mono ?_
          rintro e w2 ⟨rfl, hb2⟩
          have HB2 : Hid (Below W.heap.size W w2) := HB.out.trans (hb2.mono HB.out.size)
          clear hre q1 q2 e2 hb2
          go_wp2
          go_roundw
          case rel => exact ⟨i + 1, by go_num, by omega, by omega, HN2, HB2⟩
          case measure => simp [intOf]; omega
      · have HI : Hid (∀ x, k[i]? = some x → inW wid t x.1 = true) := fun x hx => by rw [List.getElem?_eq_none (by omega)] at hx; cases hx
        obtain ⟨w2, hw2⟩ : ∃ w2, w2 = wr := ⟨_, rfl⟩
        have HB2 : Hid (Below wr.heap.size wr w2) := by rw [hw2]; exact Below.refl _ _
        have hge2 : ¬ (i : Int) < n := by omega
        rw [← hw2]
        rw [← hw2] at e2
        clear hdl c1 c2 d2 b1 f1 hw2
        have hdl := HDL.out w2 HB2.out
        have e3 : w2.cell? ⟨R, 2, none⟩ = some (.slice ao n cp) := cell_of_heap (H2.out.below HB2.out).blk rfl
        go_wp2_with fail
        refine hdl.mono ?_
        rintro e w3 ⟨mv', rfl, hown, he, ho⟩
        have hQ := cutI H1.out (HB.out.trans (HB2.out.mono HB.out.size)) hown he ho
        have h3 := ho.heap (H2.out.below HB2.out).blk (row_ne (H2.out.below HB2.out).blk (H2.out.below HB2.out).own (by decide))
        have m3 := cell_of_heap (i := 2) h3 rfl
        have f3 := frozen_of_heap (i := 2) h3
        obtain ⟨ao', cp'', rfl⟩ := owns_slice hown
        generalize (k.drop i).length = m at *
        have HQ : Hid _ := hQ
        have HE : Hid _ := he
        clear hQ he ho hown h3 hdl e3
        go_wp2
        go_ret
        rw [trim_at (by omega) (by omega) (by rw [hkn]; exact HN.out) HI.out]
        exact ⟨rfl, _, HQ.out.1, HE.out, HO.out.trans HQ.out.2 (fun b _ q => q)⟩
end Go.Proofs.Ytjcbbcnjnnpfoaa
