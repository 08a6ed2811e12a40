/-
  plain.hold at a HoldError of ErrDivide.
-/
import Derived.Test.YtbpedpejkpkgpaaDoorAsP
import Derived.Test.YtbpedpejkpkgpaaDoorAsOwn
import Derived.Test.YtbpedpejkpkgpaaDoorIs
import Derived.Deep.QuietTactic
import Derived.BigQuiet
namespace Go.Proofs.YtbpedpejkpkgpaaDoor
open Go.RowKit Go.Extern.Stop Go.Stop Go.Extern

theorem World.drewN_extends (w : World) (n : Nat) : w.Extends (w.drewN n) := ⟨rfl, rfl, rfl, Nat.le_refl _, fun _ _ => rfl, fun _ _ => rfl, fun _ _ => rfl⟩

set_option maxHeartbeats 400000 in
theorem hold_div (hb : Nat) (n : Int) (a : Addr) (w : World) (hg : w.cell? ⟨8, 0, none⟩ = some (.iface 68 (.agg #[.pointer (some ⟨9, 28, none⟩)])))
    (h0 : w.cell? ⟨hb, 0, none⟩ = some (.int .i64 n)) (h1 : w.cell? ⟨hb, 1, none⟩ = some (.iface 82 (.pointer (some a))))
    (h5 : w.cell? ⟨5, 0, none⟩ = some (.iface 82 (.pointer (some a)))) :
    Calls Tryd.prog 6 #[.pointer (some ⟨hb, 0, none⟩)] w fun e w' => e = .returned (.agg #[.int .i64 8, .int .i64 n, .int .i64 0, .string { data := #[] }]) ∧ w.Extends w' := by
  have hl8 : 8 < w.heap.size := World.block_lt_of_cell? _ _ hg
  have hl5 : 5 < w.heap.size := World.block_lt_of_cell? _ _ h5
  have hlb : hb < w.heap.size := World.block_lt_of_cell? _ _ h0
  go_enter Tryd.func6, Tryd.ntmps6
  obtain ⟨i, hi, hcmp⟩ := Option.map_eq_some_iff.1 Tryd.isComp
  obtain ⟨j, hj, hjs⟩ := Option.map_eq_some_iff.1 Tryd.isSize
  have heq := fun W => run_eql_iface_ptr_same (P := Tryd.prog) W a Tryd.underlying28 Tryd.underlying82 hi hcmp hj
  clear hi hcmp hj hjs
  go_wp2_with fail
  refine (as_miss_p hb 0 a _ _ ?_ ?_).mono ?_
  · exact World.Extends.cell_of (((((World.Extends.refl w).alloc _).alloc _).alloc _).alloc _) hg
  · exact World.Extends.cell_of (((((World.Extends.refl w).alloc _).alloc _).alloc _).alloc _) h1
  rintro e w' ⟨rfl, rfl⟩
  go_wp2_with fail
  refine (as_miss_own hb 0 a _ _ ?_ ?_).mono ?_
  · exact World.Extends.cell_of ((((((((World.Extends.refl w).alloc _).alloc _).alloc _).alloc _).alloc _).alloc _).alloc _) hg
  · exact World.Extends.cell_of ((((((((World.Extends.refl w).alloc _).alloc _).alloc _).alloc _).alloc _).alloc _).alloc _) h1
  rintro e w1 ⟨rfl, hw1⟩
  have hx : w.Extends w1 := by
    rw [hw1]
    exact ((((((((((World.Extends.refl w).alloc _).alloc _).alloc _).alloc _).alloc _).alloc _).alloc _).alloc _).alloc _).alloc _
  have c00 : w1.cell? ⟨w.heap.size, 0, none⟩ = some (.int .i64 0) := by rw [hw1]; go_simp
  have z00 : w1.frozen? ⟨w.heap.size, 0, none⟩ = false := by rw [hw1]; go_simp
  have c01 : w1.cell? ⟨w.heap.size, 1, none⟩ = some (.int .i64 0) := by rw [hw1]; go_simp
  have z01 : w1.frozen? ⟨w.heap.size, 1, none⟩ = false := by rw [hw1]; go_simp
  have c02 : w1.cell? ⟨w.heap.size, 2, none⟩ = some (.int .i64 0) := by rw [hw1]; go_simp
  have z02 : w1.frozen? ⟨w.heap.size, 2, none⟩ = false := by rw [hw1]; go_simp
  have c03 : w1.cell? ⟨w.heap.size, 3, none⟩ = some (.string { data := #[] }) := by rw [hw1]; go_simp
  have z03 : w1.frozen? ⟨w.heap.size, 3, none⟩ = false := by rw [hw1]; go_simp
  have c10 : w1.cell? ⟨w.heap.size + 1, 0, none⟩ = some (.int .i64 99) := by rw [hw1]; go_simp
  have z10 : w1.frozen? ⟨w.heap.size + 1, 0, none⟩ = false := by rw [hw1]; go_simp
  have c11 : w1.cell? ⟨w.heap.size + 1, 1, none⟩ = some (.int .i64 n) := by rw [hw1]; go_simp
  have z11 : w1.frozen? ⟨w.heap.size + 1, 1, none⟩ = false := by rw [hw1]; go_simp
  have c12 : w1.cell? ⟨w.heap.size + 1, 2, none⟩ = some (.int .i64 0) := by rw [hw1]; go_simp
  have z12 : w1.frozen? ⟨w.heap.size + 1, 2, none⟩ = false := by rw [hw1]; go_simp
  have c13 : w1.cell? ⟨w.heap.size + 1, 3, none⟩ = some (.string { data := #[] }) := by rw [hw1]; go_simp
  have z13 : w1.frozen? ⟨w.heap.size + 1, 3, none⟩ = false := by rw [hw1]; go_simp
  clear hw1
  have hE := hx.cell_of h1
  have hE5 := hx.cell_of h5
  go_wp2_with fail
  go_quiet (first | (go_at_call 9; refine Calls.quiet_of_same (is_wrap_same hb 0 a _ ?_); exact hE))
  go_wp2
  refine bodyPost_ret (v := .agg #[.int .i64 8, .int .i64 n, .int .i64 0, .string { data := #[] }]) (by simp [results, Tryd.results6, go_sem, c00, c01, c02, c03]) rfl ⟨rfl, ?_⟩
  exact (((((hx.trans (World.drewN_extends _ _)).setCell _ _ (by simp)).setCell _ _ (by simp)).setCell _ _ (by simp)).setCell _ _ (by simp)).setCell _ _ (by simp)
end Go.Proofs.YtbpedpejkpkgpaaDoor
