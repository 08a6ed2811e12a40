/-
  THE REFERENCE's Metrics AT A MEASURE, WALKED.
-/
import Derived.Test.YtihmgoahobbdkaaGreatDoorRefM
import Derived.Test.YtihmgoahobbdkaaGreatDoorSpecMets
import Derived.Test.YtihmgoahobbdkaaGreatDoorAppend
namespace Go.Proofs.YtihmgoahobbdkaaGreatDoor
open Go.RowKit Go.Lib

theorem Tryz.infoStrR : (Tryz.prog.info? 9).map (fun i => (i.zero, i.size, i.bytes)) = some (some (.string { data := #[] }), 1, 16) := by kernel_rfl
theorem bytes_inj {a b : ByteArray} (h : a.toList = b.toList) : a = b := by
  rw [Lib.toList_data, Lib.toList_data] at h
  exact ByteArray.ext (Array.toList_inj.1 h)
theorem take_note {ms : List ByteArray} {x : ByteArray} (h : x ∈ ms) : note1 ms x = ms := by
  unfold note1
  rw [if_pos ((containsS_iff _ _).2 h)]
theorem take_new {ms : List ByteArray} {x : ByteArray} (h : x ∉ ms) : note1 ms x = ms ++ [x] := by
  unfold note1
  rw [if_neg (fun e => h ((containsS_iff _ _).1 e))]

set_option maxRecDepth 1000000 in
set_option maxHeartbeats 1000000 in
theorem ref_metrics_meas {w : World} {b N p : Nat} {n : Int} {word metric : ByteArray} {pv lv : Value} {ms : List ByteArray} (hb : NodeBlk w b 109 p n word metric pv) (hN : N ≤ w.heap.size)
    (hown : w.ownsRow N 9 1 lv ms.length (ms.map Value.string)) (hl : ms.length ≤ 1000) :
    Calls Tryz.prog 11 #[.pointer (some ⟨b, 0, none⟩), lv] w fun e w' => ∃ lv', e = .returned lv' ∧ w'.ownsRow N 9 1 lv' (note1 ms metric).length ((note1 ms metric).map Value.string) ∧ Below N w w' := by
  obtain ⟨i0, hi, hz0, hz1, hz2⟩ := info_parts Tryz.infoStrR
  have c0 := cell_of_heap (i := 0) hb rfl
  have c4 := cell_of_heap (i := 4) hb rfl
  have HO : Hid (w.ownsRow N 9 1 lv ms.length (ms.map Value.string)) := hown
  obtain ⟨ao, ln, cp, rfl⟩ := owns_slice hown
  have hln : ln = ms.length := by
    rcases hown.2 with ⟨e, h0⟩ | ⟨g, cap, cur, e, -⟩
    · injection e; omega
    · injection e
  subst hln
  have hcell : ∀ k, k < ms.length → ∃ g, ao = some ⟨g, 0, none⟩ ∧ w.cell? ⟨g, k, none⟩ = some (.string (ms.getD k ByteArray.empty)) := by
    intro k hk
    rcases hown.2 with ⟨e, h0⟩ | ⟨g, cap, cur, e, -⟩
    · omega
    · injection e with e1 e2 e3
      refine ⟨g, e1, ?_⟩
      have := hown.cells (g := g) (by rw [e1]; rfl) k (.string (ms.getD k ByteArray.empty)) (by simp [List.getD_eq_getElem?_getD, List.getElem?_eq_getElem hk])
      have ha : (⟨g, 0, none⟩ : Addr).add k = ⟨g, k, none⟩ := by
        simp only [Addr.add]
        split
        · rename_i h0; subst h0; rfl
        · simp
      rw [ha] at this
      exact this
  have HC : Hid _ := hcell
  clear hcell hown hb
  go_enter Tryz.func11, Tryz.ntmps11
  go_wp2_with fail
  go_loopw [5] (fun i wr => ∃ k q : Nat, k ≤ ms.length ∧ i = .int .i64 k ∧ wr = w.drewN q ∧ Hid (∀ j, j < k → ms.getD j ByteArray.empty ≠ metric)) (fun i _ => ms.length - (intOf i).toNat)
  case atStart => exact ⟨0, 0, Nat.zero_le _, rfl, rfl, fun j hj => absurd hj (Nat.not_lt_zero _)⟩
  case round =>
    obtain ⟨k, q, hk, rfl, rfl, HN⟩ := hrel
    rcases Nat.lt_or_ge k ms.length with hkl | hkl
    · obtain ⟨g, rfl, hck⟩ := HC.out k hkl
      have hkz : (k : Int) < (ms.length : Int) := by omega
      have hmem : ms.getD k ByteArray.empty ∈ ms := by
        rw [List.getD_eq_getElem?_getD, List.getElem?_eq_getElem hkl]
        exact List.getElem_mem hkl
      have HM : Hid (ms.getD k ByteArray.empty ∈ ms) := hmem
      by_cases hY : ms.getD k ByteArray.empty = metric
      · rw [hY] at hck HM
        clear hY hmem
        go_wp2_with fail
        go_quiet (fail)
        go_wp2
        go_ret
        refine ⟨_, rfl, ?_, ?_⟩
        · rw [take_note HM.out]
          exact HO.out.kept (row := none) ⟨rfl, rfl, rfl, Nat.le_refl _, fun _ _ _ => rfl⟩ (Classical.em _)
        · exact ⟨rfl, rfl, rfl, Nat.le_refl _, fun _ _ => rfl⟩
      · have HY : Hid (ms.getD k ByteArray.empty ≠ metric) := hY
        have hbq : ((ms.getD k ByteArray.empty).toList == metric.toList) = false := by rw [beq_eq_false_iff_ne]; exact fun e => hY (bytes_inj e)
        obtain ⟨Y, hYe⟩ : ∃ Y, Y = ms.getD k ByteArray.empty := ⟨_, rfl⟩
        rw [← hYe] at hck hY hbq
        clear hYe hmem
        go_wp2_with fail
        go_quiet (fail)
        go_wp2
        go_roundw
        case rel =>
          refine ⟨k + 1, _, hkl, ?_, rfl, fun j hj => ?_⟩
          · go_num
          · rcases Nat.lt_or_ge j k with h | h
            · exact HN.out j h
            · obtain rfl : j = k := by omega
              exact HY.out
        case measure => simp [intOf]; omega
    · have hkz : ¬ (k : Int) < (ms.length : Int) := by omega
      have hnew : metric ∉ ms := by
        intro hm
        obtain ⟨j, hj, e⟩ := List.getElem_of_mem hm
        refine HN.out j (by omega) ?_
        rw [List.getD_eq_getElem?_getD, List.getElem?_eq_getElem hj]
        exact e
      have HW : Hid (metric ∉ ms) := hnew
      clear hnew HC
      go_wp2_with (first | (at_builtin; refine wpList_append_at _ rfl _ _ 30 rfl N 9 i0 (.string { data := #[] }) 1 16 Tryz.underlying30 hi hz0 hz1 hz2 rfl (by decide) (.slice ao ms.length cp) ms.length (ms.map Value.string) rfl (((HO.out.kept (w' := w.drewN q) (row := none) ⟨rfl, rfl, rfl, Nat.le_refl _, fun _ _ _ => rfl⟩ (Classical.em _))).alloc _) ⟨w.heap.size, 0, none⟩ 1 1 [.string metric] rfl rfl (cell_one_new _ _ _) (fun x hx => by simp at hx; subst hx; rfl) (by unfold maxLen; omega) (by omega) (by simp; omega) (by decide) ?_; intro v' w5 hown hgrow hnil
                            have HG : Hid _ := hgrow
                            have HV : Hid (w5.ownsRow N 9 1 v' (ms.length + 1) (ms.map Value.string ++ [.string metric])) := hown
                            obtain ⟨ao2, ln2, cp2, rfl⟩ := owns_slice hown
                            clear hgrow hown hnil))
      go_ret
      refine ⟨_, rfl, ?_, ?_⟩
      · rw [take_new HW.out]
        simpa using HV.out
      · refine ⟨HG.out.os, HG.out.tape, HG.out.output, by have := HG.out.size; simp at this; omega, fun k hk => ?_⟩
        exact (HG.out.block k (by simp; omega) (fun e => by have := (HO.out.lt _ e.symm).1; omega)).trans (Below.heap_alloc _ _ _ (by simp; omega))
end Go.Proofs.YtihmgoahobbdkaaGreatDoor
