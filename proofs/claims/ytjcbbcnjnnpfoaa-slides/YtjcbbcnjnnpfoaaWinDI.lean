/-
  A WINDOW OF int64: NewWindow, Len, Push, and what comes too late, WALKED.
-/
import Derived.Test.YtjcbbcnjnnpfoaaWinCI
namespace Go.Proofs.Ytjcbbcnjnnpfoaa
open Go.RowKit Go.Lib

set_option maxRecDepth 1000000 in
theorem lateI {w : World} {R : Nat} {wid tm : Int} {k : List (Int × Int)} {mv : Value} (h : WinI w R wid tm k mv) (t : Int) (hlt : t < tm) :
    Calls Try.prog 25 #[.pointer (some ⟨R, 0, none⟩), .int .i64 t] w fun e w' => e = .returned (.bool false) ∧ w' = w := by
  have c1 := cell_of_heap (i := 1) h.blk rfl
  clear h
  go_enter Try.func25, Try.ntmps25
  go_wp2
  go_ret
  exact ⟨rfl, rfl⟩
set_option maxRecDepth 1000000 in
theorem pushLateI {w : World} {R : Nat} {wid tm : Int} {k : List (Int × Int)} {mv : Value} (h : WinI w R wid tm k mv) (t : Int) (v : Int) (hlt : t < tm) :
    Calls Try.prog 23 #[.pointer (some ⟨R, 0, none⟩), .int .i64 t, (Value.int .i64) v] w fun e w' => e = .returned (.bool false) ∧ w' = w := by
  have c1 := cell_of_heap (i := 1) h.blk rfl
  clear h
  go_enter Try.func23, Try.ntmps23
  go_wp2
  go_ret
  exact ⟨rfl, rfl⟩
set_option maxRecDepth 1000000 in
theorem lenI {w : World} {R : Nat} {wid tm : Int} {k : List (Int × Int)} {mv : Value} (h : WinI w R wid tm k mv) :
    Calls Try.prog 18 #[.pointer (some ⟨R, 0, none⟩)] w fun e w' => e = .returned (.int .i64 k.length) ∧ w' = w := by
  obtain ⟨ao, cp, rfl⟩ := owns_slice h.own
  have c2 := cell_of_heap (i := 2) h.blk rfl
  clear h
  go_enter Try.func18, Try.ntmps18
  go_wp2
  go_ret
  exact ⟨rfl, rfl⟩
set_option maxRecDepth 1000000 in
theorem newI (w : World) (wid : Int) (hw : I64 wid) :
    Calls Try.prog 6 #[.int .i64 wid] w fun e w' => e = .returned (.pointer (some ⟨w.heap.size, 0, none⟩)) ∧ Below w.heap.size w w' ∧ w'.heap.size = w.heap.size + 1 ∧ WinI w' w.heap.size wid (-9223372036854775808) [] (.slice none 0 0) := by
  go_enter Try.func6, Try.ntmps6
  go_wp2
  go_ret
  exact ⟨rfl, (Below.refl _ _).alloc (Nat.le_refl _) _, by simp, block_new _ _ _, World.ownsRow_nil _ _ _ _, hw, by unfold I64; omega, by simp, by simp⟩

/-- A sample is behind the others, the time still as it was. -/
theorem pushedI {w w5 : World} {R : Nat} {wid tm : Int} {k : List (Int × Int)} {mv v' : Value} {t : Int} {v : Int} (h : WinI w R wid tm k mv) (h16 : k.length ≤ 16) (ht : I64 t) {o : Obj} (hown : w5.ownsRow 0 84 2 v' (k.length + 1) (sCells (Value.int .i64) k ++ [.int .i64 t, (Value.int .i64) v])) (hg : (w.alloc o).grownBy w5 mv.ownBlock) :
    WinI (w5.setCell ⟨R, 2, none⟩ v') R wid tm (k ++ [(t, v)]) v' ∧ Only (Mine R mv) w (w5.setCell ⟨R, 2, none⟩ v') := by
  have hne := row_ne h.blk h.own (by decide)
  have b5 : w5.heap[R]? = some (.cells #[.int .i64 wid, .int .i64 tm, mv] 47 (0, 0)) := (hg.block R (by simp; have := heap_lt h.blk; omega) (fun e => hne e.symm)).trans (heap_alloc_old h.blk)
  have hne5 := row_ne b5 hown (by decide)
  refine ⟨⟨heap_set_same (i := 2) (v := v') b5, ?_, h.wid64, h.tm64, ?_, by simp; omega⟩, ?_⟩
  · have := ((Only.refl (fun b => b = R) w5).setCell (a := ⟨R, 2, none⟩) (fun _ => rfl) v').owns hown (fun g hg e => by subst e; exact hne5 hg)
    rw [sCells_append]
    simpa [sCells] using this
  · intro x hx
    rcases List.mem_append.1 hx with hx | hx
    · exact h.times x hx
    · rw [List.mem_singleton.1 hx]; exact ht
  · exact (((Only.refl _ w).alloc o).grown hg (fun b _ e => .inr e)).setCell (a := ⟨R, 2, none⟩) (fun _ => .inl rfl) v'

set_option maxRecDepth 1000000 in
set_option maxHeartbeats 1000000 in
theorem pushI {w : World} {R : Nat} {wid tm : Int} {k : List (Int × Int)} {mv : Value} (h : WinI w R wid tm k mv) (h16 : k.length ≤ 16) (t : Int) (v : Int) (ht : I64 t) (hle : tm ≤ t) (hts : ∀ x ∈ k, x.1 ≤ t) :
    Calls Try.prog 23 #[.pointer (some ⟨R, 0, none⟩), .int .i64 t, (Value.int .i64) v] w fun e w' => e = .returned (.bool true) ∧ ∃ mv', WinI w' R wid t (trim wid t (k ++ [(t, v)])) mv' ∧ (mv'.ownBlock = mv.ownBlock ∨ ∃ g, mv'.ownBlock = some g ∧ w.heap.size ≤ g) ∧ Only (Mine R mv) w w' := by
  obtain ⟨i0, hi0, hz0, hz1, hz2⟩ := info_parts infoSamI
  obtain ⟨ao, cp, rfl⟩ := owns_slice h.own
  have c1 := cell_of_heap (i := 1) h.blk rfl
  have c2 := cell_of_heap (i := 2) h.blk rfl
  have hlt : ¬ t < tm := by omega
  have H : Hid (WinI w R wid tm k (.slice ao k.length cp)) := h
  have HTS : Hid (∀ x ∈ k, x.1 ≤ t) := hts
  clear hts h
  go_enter Try.func23, Try.ntmps23
  go_wp2_with (first | (at_builtin; refine wpList_append_at _ rfl _ _ 45 rfl 0 84 i0 (.agg #[.int .i64 0, (Value.int .i64) 0]) 2 16 Try.underlying45 hi0 hz0 hz1 hz2 rfl (by decide) (.slice ao k.length cp) k.length (sCells (Value.int .i64) k) rfl (H.out.own.alloc _) ⟨w.heap.size, 0, none⟩ 1 1 [.int .i64 t, (Value.int .i64) v] rfl rfl (cells_two_new _ _ _ _) (two_one rfl rfl) (by unfold maxLen; omega) (by omega) (by omega) (by decide) ?_; intro v' w5 hown hgrow hnil
                        have hQ := pushedI H.out h16 ht hown hgrow
                        have hne := row_ne H.out.blk H.out.own (by decide)
                        have b5 : w5.heap[R]? = some (.cells #[.int .i64 wid, .int .i64 tm, .slice ao k.length cp] 47 (0, 0)) := (hgrow.block R (by simp; have := heap_lt H.out.blk; omega) (fun e => hne e.symm)).trans (heap_alloc_old H.out.blk)
                        have m5 := cell_of_heap (i := 2) b5 rfl
                        have f5 := frozen_of_heap (i := 2) b5
                        obtain ⟨ao2, cp2, rfl⟩ := owns_slice hown
                        have had := advanceI hQ.1 t ht hle (fun x hx => by rcases List.mem_append.1 hx with hx | hx; exact HTS.out x hx; rw [List.mem_singleton.1 hx]; exact Int.le_refl _)
                        have HQ : Hid _ := hQ
                        have HNIL : Hid _ := hnil
                        clear hQ hown hgrow hnil b5 hne))
  refine had.mono ?_
  rintro e w6 ⟨rfl, mv', hw, he, ho⟩
  have HR : Hid _ := And.intro hw (And.intro he ho)
  clear hw he ho had
  go_wp2
  go_ret
  refine ⟨rfl, mv', HR.out.1, ?_, ?_⟩
  · rw [HR.out.2.1]
    rcases HNIL.out with h | h
    · exact .inl h
    · exact .inr ⟨_, h, by simp⟩
  · refine HQ.out.2.trans HR.out.2.2 fun b hb q => ?_
    rcases q with q | q
    · exact .inl q
    · rcases HNIL.out with h | h
      · exact .inr (h ▸ q)
      · rw [h] at q
        injection q with q
        simp at q
        omega
end Go.Proofs.Ytjcbbcnjnnpfoaa
