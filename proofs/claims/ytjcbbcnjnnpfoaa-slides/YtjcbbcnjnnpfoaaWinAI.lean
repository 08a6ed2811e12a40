/-
  A WINDOW OF int64: reaches, WALKED.
-/
import Derived.Test.YtjcbbcnjnnpfoaaWinK
import Derived.Test.YtjcbbcnjnnpfoaaProg
import Derived.BigQuiet
namespace Go.Proofs.Ytjcbbcnjnnpfoaa
open Go.RowKit Go.Lib

abbrev WinI := Win (α := Int) (Value.int .i64) 47 84

set_option maxRecDepth 1000000 in
theorem reachesI {w : World} {R : Nat} {wid tm : Int} {k : List (Int × Int)} {mv : Value} (h : WinI w R wid tm k mv) (t : Int) (v : Int) (ht : I64 t) (hle : t ≤ tm) :
    Calls Try.prog 39 #[.pointer (some ⟨R, 0, none⟩), .agg #[.int .i64 t, (Value.int .i64) v]] w fun e w' => e = .returned (.bool (inW wid tm t)) ∧ Below w.heap.size w w' := by
  have c0 := cell_of_heap (i := 0) h.blk rfl
  have c1 := cell_of_heap (i := 1) h.blk rfl
  have h1 := h.wid64
  have h2 := h.tm64
  unfold I64 at *
  have a0 : ∀ o, (w.alloc o).cell? ⟨R, 0, none⟩ = some (.int .i64 wid) := cell_past c0
  have a1 : ∀ o, (w.alloc o).cell? ⟨R, 1, none⟩ = some (.int .i64 tm) := cell_past c1
  have n0 : (w.alloc (.cells #[.int .i64 t, (Value.int .i64) v] 84)).cell? ⟨w.heap.size, 0, none⟩ = some (.int .i64 t) := cell_of_heap (block_new _ _ _) rfl
  clear h
  go_enter Try.func39, Try.ntmps39
  go_wp2_with fail
  go_quiet (fail)
  go_wp2
  · go_ret
    refine ⟨?_, below_drewN ((Below.refl _ _).alloc (Nat.le_refl _) _) nq⟩
    have hk : IntKind.u64.wrap (IntKind.u64.wrap tm - IntKind.u64.wrap t) = tm - t := by
      simp only [IntKind.wrap_u64]
      omega
    show Ending.returned (.bool (decide (IntKind.u64.wrap (IntKind.u64.wrap tm - IntKind.u64.wrap t) < wid))) = _
    have hw : 0 < wid := by assumption
    rw [hk, inW, decide_eq_true hw, Bool.true_and]
    congr 2
    exact decide_eq_decide.2 (by omega)
  · go_ret
    refine ⟨?_, below_drewN ((Below.refl _ _).alloc (Nat.le_refl _) _) nq⟩
    have hw : ¬ 0 < wid := by omega
    show Ending.returned (.bool false) = _
    rw [inW, decide_eq_false hw, Bool.false_and]
end Go.Proofs.Ytjcbbcnjnnpfoaa
