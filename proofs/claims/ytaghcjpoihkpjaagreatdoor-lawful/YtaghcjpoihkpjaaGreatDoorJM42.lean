/-
  THE SENTINELS OF CONTROLLERS, as plain.Of tells them.
-/
import Derived.Test.YtaghcjpoihkpjaaGreatDoorJM29
namespace Go.Proofs.YtaghcjpoihkpjaaGreatDoor
open Go.RowKit Go.Lib
section
variable {A : Nat → Addr} {w : World}
set_option maxRecDepth 1000000 in
set_option maxHeartbeats 4000000 in
theorem code_sentinel2 (h : SentsX A w) : Calls Tryz.prog 38 #[.iface 349 (.pointer (some (A 2)))] w fun e w' => e = .returned (.int .i64 5) ∧ Below w.heap.size w w' := by
  obtain ⟨ca, ta, ha⟩ := h.row 2 (by decide)
  obtain ⟨cb0, tb0, hb0⟩ := h.row 0 (by decide)
  have hne0 := h.ne 2 0 (by decide) (by decide) (by decide)
  obtain ⟨cb1, tb1, hb1⟩ := h.row 1 (by decide)
  have hne1 := h.ne 2 1 (by decide) (by decide) (by decide)
  obtain ⟨⟨g0, g1, g2, g3, g4, g5, g6, g7⟩, -, -, -⟩ := h
  obtain ⟨ti, hi, hcmp⟩ := Option.map_eq_some_iff.1 Tryz.isComp
  obtain ⟨tj, hj, hjs⟩ := Option.map_eq_some_iff.1 Tryz.isSize
  have heq := fun W => run_eql_iface_ptr_same (P := Tryz.prog) W (A 2) Tryz.underlying50 Tryz.underlying349 hi hcmp hj
  have hot0 := fun W => run_eql_iface_ptr_other (P := Tryz.prog) W (ca := ca) (cb := cb0) (ta := ta) (tb := tb0) Tryz.underlying50 Tryz.underlying349 hi hcmp hj (by rw [hjs]; decide) hne0
  have hot1 := fun W => run_eql_iface_ptr_other (P := Tryz.prog) W (ca := ca) (cb := cb1) (ta := ta) (tb := tb1) Tryz.underlying50 Tryz.underlying349 hi hcmp hj (by rw [hjs]; decide) hne1
  clear hi hcmp hj hjs
  go_enter Tryz.func38, Tryz.ntmps38
  go_wp2_with fail
  obtain ⟨X, hX⟩ : ∃ X, X = w.alloc (.cells #[.nilIface, .iface 349 (.pointer (some (A 0))), .nilIface, .nilIface, .iface 349 (.pointer (some (A 1))), .iface 349 (.pointer (some (A 2))), .iface 349 (.pointer (some (A 3))), .iface 349 (.pointer (some (A 4))), .iface 349 (.pointer (some (A 5))), .iface 349 (.pointer (some (A 6))), .nilIface, .nilIface, .iface 349 (.pointer (some (A 7)))] 50) := ⟨_, rfl⟩
  rw [← hX]
  have x0 : X.cell? ⟨w.heap.size, 0, none⟩ = some (.nilIface) := by rw [hX]; go_simp
  have x1 : X.cell? ⟨w.heap.size, 1, none⟩ = some (.iface 349 (.pointer (some (A 0)))) := by rw [hX]; go_simp
  have x2 : X.cell? ⟨w.heap.size, 2, none⟩ = some (.nilIface) := by rw [hX]; go_simp
  have x3 : X.cell? ⟨w.heap.size, 3, none⟩ = some (.nilIface) := by rw [hX]; go_simp
  have x4 : X.cell? ⟨w.heap.size, 4, none⟩ = some (.iface 349 (.pointer (some (A 1)))) := by rw [hX]; go_simp
  have x5 : X.cell? ⟨w.heap.size, 5, none⟩ = some (.iface 349 (.pointer (some (A 2)))) := by rw [hX]; go_simp
  have hbx : Below w.heap.size w X := by rw [hX]; exact (Below.refl _ _).alloc (Nat.le_refl _) _
  have hot0 := hot0 X ((hbx.block _ (heap_lt ha)).trans ha) ((hbx.block _ (heap_lt hb0)).trans hb0)
  have hot1 := hot1 X ((hbx.block _ (heap_lt ha)).trans ha) ((hbx.block _ (heap_lt hb1)).trans hb1)
  have HX : Hid (Below w.heap.size w X) := hbx
  clear hX hbx g0 g1 g2 g3 g4 g5 g6 g7 ha hb0 hb1
  refine wp_loop_rounds 6 ?_
  rw [rounds_succ]
  go_wp2_with fail
  rw [rounds_succ]
  go_wp2_with fail
  rw [rounds_succ]
  go_wp2_with fail
  rw [rounds_succ]
  go_wp2_with fail
  rw [rounds_succ]
  go_wp2_with fail
  rw [rounds_succ]
  go_wp2
  go_ret
  exact ⟨rfl, HX.out⟩
set_option maxRecDepth 1000000 in
set_option maxHeartbeats 4000000 in
theorem code_sentinel3 (h : SentsX A w) : Calls Tryz.prog 38 #[.iface 349 (.pointer (some (A 3)))] w fun e w' => e = .returned (.int .i64 6) ∧ Below w.heap.size w w' := by
  obtain ⟨ca, ta, ha⟩ := h.row 3 (by decide)
  obtain ⟨cb0, tb0, hb0⟩ := h.row 0 (by decide)
  have hne0 := h.ne 3 0 (by decide) (by decide) (by decide)
  obtain ⟨cb1, tb1, hb1⟩ := h.row 1 (by decide)
  have hne1 := h.ne 3 1 (by decide) (by decide) (by decide)
  obtain ⟨cb2, tb2, hb2⟩ := h.row 2 (by decide)
  have hne2 := h.ne 3 2 (by decide) (by decide) (by decide)
  obtain ⟨⟨g0, g1, g2, g3, g4, g5, g6, g7⟩, -, -, -⟩ := h
  obtain ⟨ti, hi, hcmp⟩ := Option.map_eq_some_iff.1 Tryz.isComp
  obtain ⟨tj, hj, hjs⟩ := Option.map_eq_some_iff.1 Tryz.isSize
  have heq := fun W => run_eql_iface_ptr_same (P := Tryz.prog) W (A 3) Tryz.underlying50 Tryz.underlying349 hi hcmp hj
  have hot0 := fun W => run_eql_iface_ptr_other (P := Tryz.prog) W (ca := ca) (cb := cb0) (ta := ta) (tb := tb0) Tryz.underlying50 Tryz.underlying349 hi hcmp hj (by rw [hjs]; decide) hne0
  have hot1 := fun W => run_eql_iface_ptr_other (P := Tryz.prog) W (ca := ca) (cb := cb1) (ta := ta) (tb := tb1) Tryz.underlying50 Tryz.underlying349 hi hcmp hj (by rw [hjs]; decide) hne1
  have hot2 := fun W => run_eql_iface_ptr_other (P := Tryz.prog) W (ca := ca) (cb := cb2) (ta := ta) (tb := tb2) Tryz.underlying50 Tryz.underlying349 hi hcmp hj (by rw [hjs]; decide) hne2
  clear hi hcmp hj hjs
  go_enter Tryz.func38, Tryz.ntmps38
  go_wp2_with fail
  obtain ⟨X, hX⟩ : ∃ X, X = w.alloc (.cells #[.nilIface, .iface 349 (.pointer (some (A 0))), .nilIface, .nilIface, .iface 349 (.pointer (some (A 1))), .iface 349 (.pointer (some (A 2))), .iface 349 (.pointer (some (A 3))), .iface 349 (.pointer (some (A 4))), .iface 349 (.pointer (some (A 5))), .iface 349 (.pointer (some (A 6))), .nilIface, .nilIface, .iface 349 (.pointer (some (A 7)))] 50) := ⟨_, rfl⟩
  rw [← hX]
  have x0 : X.cell? ⟨w.heap.size, 0, none⟩ = some (.nilIface) := by rw [hX]; go_simp
  have x1 : X.cell? ⟨w.heap.size, 1, none⟩ = some (.iface 349 (.pointer (some (A 0)))) := by rw [hX]; go_simp
  have x2 : X.cell? ⟨w.heap.size, 2, none⟩ = some (.nilIface) := by rw [hX]; go_simp
  have x3 : X.cell? ⟨w.heap.size, 3, none⟩ = some (.nilIface) := by rw [hX]; go_simp
  have x4 : X.cell? ⟨w.heap.size, 4, none⟩ = some (.iface 349 (.pointer (some (A 1)))) := by rw [hX]; go_simp
  have x5 : X.cell? ⟨w.heap.size, 5, none⟩ = some (.iface 349 (.pointer (some (A 2)))) := by rw [hX]; go_simp
  have x6 : X.cell? ⟨w.heap.size, 6, none⟩ = some (.iface 349 (.pointer (some (A 3)))) := by rw [hX]; go_simp
  have hbx : Below w.heap.size w X := by rw [hX]; exact (Below.refl _ _).alloc (Nat.le_refl _) _
  have hot0 := hot0 X ((hbx.block _ (heap_lt ha)).trans ha) ((hbx.block _ (heap_lt hb0)).trans hb0)
  have hot1 := hot1 X ((hbx.block _ (heap_lt ha)).trans ha) ((hbx.block _ (heap_lt hb1)).trans hb1)
  have hot2 := hot2 X ((hbx.block _ (heap_lt ha)).trans ha) ((hbx.block _ (heap_lt hb2)).trans hb2)
  have HX : Hid (Below w.heap.size w X) := hbx
  clear hX hbx g0 g1 g2 g3 g4 g5 g6 g7 ha hb0 hb1 hb2
  refine wp_loop_rounds 7 ?_
  rw [rounds_succ]
  go_wp2_with fail
  rw [rounds_succ]
  go_wp2_with fail
  rw [rounds_succ]
  go_wp2_with fail
  rw [rounds_succ]
  go_wp2_with fail
  rw [rounds_succ]
  go_wp2_with fail
  rw [rounds_succ]
  go_wp2_with fail
  rw [rounds_succ]
  go_wp2
  go_ret
  exact ⟨rfl, HX.out⟩
set_option maxRecDepth 1000000 in
set_option maxHeartbeats 4000000 in
theorem code_sentinel4 (h : SentsX A w) : Calls Tryz.prog 38 #[.iface 349 (.pointer (some (A 4)))] w fun e w' => e = .returned (.int .i64 7) ∧ Below w.heap.size w w' := by
  obtain ⟨ca, ta, ha⟩ := h.row 4 (by decide)
  obtain ⟨cb0, tb0, hb0⟩ := h.row 0 (by decide)
  have hne0 := h.ne 4 0 (by decide) (by decide) (by decide)
  obtain ⟨cb1, tb1, hb1⟩ := h.row 1 (by decide)
  have hne1 := h.ne 4 1 (by decide) (by decide) (by decide)
  obtain ⟨cb2, tb2, hb2⟩ := h.row 2 (by decide)
  have hne2 := h.ne 4 2 (by decide) (by decide) (by decide)
  obtain ⟨cb3, tb3, hb3⟩ := h.row 3 (by decide)
  have hne3 := h.ne 4 3 (by decide) (by decide) (by decide)
  obtain ⟨⟨g0, g1, g2, g3, g4, g5, g6, g7⟩, -, -, -⟩ := h
  obtain ⟨ti, hi, hcmp⟩ := Option.map_eq_some_iff.1 Tryz.isComp
  obtain ⟨tj, hj, hjs⟩ := Option.map_eq_some_iff.1 Tryz.isSize
  have heq := fun W => run_eql_iface_ptr_same (P := Tryz.prog) W (A 4) Tryz.underlying50 Tryz.underlying349 hi hcmp hj
  have hot0 := fun W => run_eql_iface_ptr_other (P := Tryz.prog) W (ca := ca) (cb := cb0) (ta := ta) (tb := tb0) Tryz.underlying50 Tryz.underlying349 hi hcmp hj (by rw [hjs]; decide) hne0
  have hot1 := fun W => run_eql_iface_ptr_other (P := Tryz.prog) W (ca := ca) (cb := cb1) (ta := ta) (tb := tb1) Tryz.underlying50 Tryz.underlying349 hi hcmp hj (by rw [hjs]; decide) hne1
  have hot2 := fun W => run_eql_iface_ptr_other (P := Tryz.prog) W (ca := ca) (cb := cb2) (ta := ta) (tb := tb2) Tryz.underlying50 Tryz.underlying349 hi hcmp hj (by rw [hjs]; decide) hne2
  have hot3 := fun W => run_eql_iface_ptr_other (P := Tryz.prog) W (ca := ca) (cb := cb3) (ta := ta) (tb := tb3) Tryz.underlying50 Tryz.underlying349 hi hcmp hj (by rw [hjs]; decide) hne3
  clear hi hcmp hj hjs
  go_enter Tryz.func38, Tryz.ntmps38
  go_wp2_with fail
  obtain ⟨X, hX⟩ : ∃ X, X = w.alloc (.cells #[.nilIface, .iface 349 (.pointer (some (A 0))), .nilIface, .nilIface, .iface 349 (.pointer (some (A 1))), .iface 349 (.pointer (some (A 2))), .iface 349 (.pointer (some (A 3))), .iface 349 (.pointer (some (A 4))), .iface 349 (.pointer (some (A 5))), .iface 349 (.pointer (some (A 6))), .nilIface, .nilIface, .iface 349 (.pointer (some (A 7)))] 50) := ⟨_, rfl⟩
  rw [← hX]
  have x0 : X.cell? ⟨w.heap.size, 0, none⟩ = some (.nilIface) := by rw [hX]; go_simp
  have x1 : X.cell? ⟨w.heap.size, 1, none⟩ = some (.iface 349 (.pointer (some (A 0)))) := by rw [hX]; go_simp
  have x2 : X.cell? ⟨w.heap.size, 2, none⟩ = some (.nilIface) := by rw [hX]; go_simp
  have x3 : X.cell? ⟨w.heap.size, 3, none⟩ = some (.nilIface) := by rw [hX]; go_simp
  have x4 : X.cell? ⟨w.heap.size, 4, none⟩ = some (.iface 349 (.pointer (some (A 1)))) := by rw [hX]; go_simp
  have x5 : X.cell? ⟨w.heap.size, 5, none⟩ = some (.iface 349 (.pointer (some (A 2)))) := by rw [hX]; go_simp
  have x6 : X.cell? ⟨w.heap.size, 6, none⟩ = some (.iface 349 (.pointer (some (A 3)))) := by rw [hX]; go_simp
  have x7 : X.cell? ⟨w.heap.size, 7, none⟩ = some (.iface 349 (.pointer (some (A 4)))) := by rw [hX]; go_simp
  have hbx : Below w.heap.size w X := by rw [hX]; exact (Below.refl _ _).alloc (Nat.le_refl _) _
  have hot0 := hot0 X ((hbx.block _ (heap_lt ha)).trans ha) ((hbx.block _ (heap_lt hb0)).trans hb0)
  have hot1 := hot1 X ((hbx.block _ (heap_lt ha)).trans ha) ((hbx.block _ (heap_lt hb1)).trans hb1)
  have hot2 := hot2 X ((hbx.block _ (heap_lt ha)).trans ha) ((hbx.block _ (heap_lt hb2)).trans hb2)
  have hot3 := hot3 X ((hbx.block _ (heap_lt ha)).trans ha) ((hbx.block _ (heap_lt hb3)).trans hb3)
  have HX : Hid (Below w.heap.size w X) := hbx
  clear hX hbx g0 g1 g2 g3 g4 g5 g6 g7 ha hb0 hb1 hb2 hb3
  refine wp_loop_rounds 8 ?_
  rw [rounds_succ]
  go_wp2_with fail
  rw [rounds_succ]
  go_wp2_with fail
  rw [rounds_succ]
  go_wp2_with fail
  rw [rounds_succ]
  go_wp2_with fail
  rw [rounds_succ]
  go_wp2_with fail
  rw [rounds_succ]
  go_wp2_with fail
  rw [rounds_succ]
  go_wp2_with fail
  rw [rounds_succ]
  go_wp2
  go_ret
  exact ⟨rfl, HX.out⟩
set_option maxRecDepth 1000000 in
set_option maxHeartbeats 4000000 in
theorem code_sentinel7 (h : SentsX A w) : Calls Tryz.prog 38 #[.iface 349 (.pointer (some (A 7)))] w fun e w' => e = .returned (.int .i64 12) ∧ Below w.heap.size w w' := by
  obtain ⟨ca, ta, ha⟩ := h.row 7 (by decide)
  obtain ⟨cb0, tb0, hb0⟩ := h.row 0 (by decide)
  have hne0 := h.ne 7 0 (by decide) (by decide) (by decide)
  obtain ⟨cb1, tb1, hb1⟩ := h.row 1 (by decide)
  have hne1 := h.ne 7 1 (by decide) (by decide) (by decide)
  obtain ⟨cb2, tb2, hb2⟩ := h.row 2 (by decide)
  have hne2 := h.ne 7 2 (by decide) (by decide) (by decide)
  obtain ⟨cb3, tb3, hb3⟩ := h.row 3 (by decide)
  have hne3 := h.ne 7 3 (by decide) (by decide) (by decide)
  obtain ⟨cb4, tb4, hb4⟩ := h.row 4 (by decide)
  have hne4 := h.ne 7 4 (by decide) (by decide) (by decide)
  obtain ⟨cb5, tb5, hb5⟩ := h.row 5 (by decide)
  have hne5 := h.ne 7 5 (by decide) (by decide) (by decide)
  obtain ⟨cb6, tb6, hb6⟩ := h.row 6 (by decide)
  have hne6 := h.ne 7 6 (by decide) (by decide) (by decide)
  obtain ⟨⟨g0, g1, g2, g3, g4, g5, g6, g7⟩, -, -, -⟩ := h
  obtain ⟨ti, hi, hcmp⟩ := Option.map_eq_some_iff.1 Tryz.isComp
  obtain ⟨tj, hj, hjs⟩ := Option.map_eq_some_iff.1 Tryz.isSize
  have heq := fun W => run_eql_iface_ptr_same (P := Tryz.prog) W (A 7) Tryz.underlying50 Tryz.underlying349 hi hcmp hj
  have hot0 := fun W => run_eql_iface_ptr_other (P := Tryz.prog) W (ca := ca) (cb := cb0) (ta := ta) (tb := tb0) Tryz.underlying50 Tryz.underlying349 hi hcmp hj (by rw [hjs]; decide) hne0
  have hot1 := fun W => run_eql_iface_ptr_other (P := Tryz.prog) W (ca := ca) (cb := cb1) (ta := ta) (tb := tb1) Tryz.underlying50 Tryz.underlying349 hi hcmp hj (by rw [hjs]; decide) hne1
  have hot2 := fun W => run_eql_iface_ptr_other (P := Tryz.prog) W (ca := ca) (cb := cb2) (ta := ta) (tb := tb2) Tryz.underlying50 Tryz.underlying349 hi hcmp hj (by rw [hjs]; decide) hne2
  have hot3 := fun W => run_eql_iface_ptr_other (P := Tryz.prog) W (ca := ca) (cb := cb3) (ta := ta) (tb := tb3) Tryz.underlying50 Tryz.underlying349 hi hcmp hj (by rw [hjs]; decide) hne3
  have hot4 := fun W => run_eql_iface_ptr_other (P := Tryz.prog) W (ca := ca) (cb := cb4) (ta := ta) (tb := tb4) Tryz.underlying50 Tryz.underlying349 hi hcmp hj (by rw [hjs]; decide) hne4
  have hot5 := fun W => run_eql_iface_ptr_other (P := Tryz.prog) W (ca := ca) (cb := cb5) (ta := ta) (tb := tb5) Tryz.underlying50 Tryz.underlying349 hi hcmp hj (by rw [hjs]; decide) hne5
  have hot6 := fun W => run_eql_iface_ptr_other (P := Tryz.prog) W (ca := ca) (cb := cb6) (ta := ta) (tb := tb6) Tryz.underlying50 Tryz.underlying349 hi hcmp hj (by rw [hjs]; decide) hne6
  clear hi hcmp hj hjs
  go_enter Tryz.func38, Tryz.ntmps38
  go_wp2_with fail
  obtain ⟨X, hX⟩ : ∃ X, X = w.alloc (.cells #[.nilIface, .iface 349 (.pointer (some (A 0))), .nilIface, .nilIface, .iface 349 (.pointer (some (A 1))), .iface 349 (.pointer (some (A 2))), .iface 349 (.pointer (some (A 3))), .iface 349 (.pointer (some (A 4))), .iface 349 (.pointer (some (A 5))), .iface 349 (.pointer (some (A 6))), .nilIface, .nilIface, .iface 349 (.pointer (some (A 7)))] 50) := ⟨_, rfl⟩
  rw [← hX]
  have x0 : X.cell? ⟨w.heap.size, 0, none⟩ = some (.nilIface) := by rw [hX]; go_simp
  have x1 : X.cell? ⟨w.heap.size, 1, none⟩ = some (.iface 349 (.pointer (some (A 0)))) := by rw [hX]; go_simp
  have x2 : X.cell? ⟨w.heap.size, 2, none⟩ = some (.nilIface) := by rw [hX]; go_simp
  have x3 : X.cell? ⟨w.heap.size, 3, none⟩ = some (.nilIface) := by rw [hX]; go_simp
  have x4 : X.cell? ⟨w.heap.size, 4, none⟩ = some (.iface 349 (.pointer (some (A 1)))) := by rw [hX]; go_simp
  have x5 : X.cell? ⟨w.heap.size, 5, none⟩ = some (.iface 349 (.pointer (some (A 2)))) := by rw [hX]; go_simp
  have x6 : X.cell? ⟨w.heap.size, 6, none⟩ = some (.iface 349 (.pointer (some (A 3)))) := by rw [hX]; go_simp
  have x7 : X.cell? ⟨w.heap.size, 7, none⟩ = some (.iface 349 (.pointer (some (A 4)))) := by rw [hX]; go_simp
  have x8 : X.cell? ⟨w.heap.size, 8, none⟩ = some (.iface 349 (.pointer (some (A 5)))) := by rw [hX]; go_simp
  have x9 : X.cell? ⟨w.heap.size, 9, none⟩ = some (.iface 349 (.pointer (some (A 6)))) := by rw [hX]; go_simp
  have x10 : X.cell? ⟨w.heap.size, 10, none⟩ = some (.nilIface) := by rw [hX]; go_simp
  have x11 : X.cell? ⟨w.heap.size, 11, none⟩ = some (.nilIface) := by rw [hX]; go_simp
  have x12 : X.cell? ⟨w.heap.size, 12, none⟩ = some (.iface 349 (.pointer (some (A 7)))) := by rw [hX]; go_simp
  have hbx : Below w.heap.size w X := by rw [hX]; exact (Below.refl _ _).alloc (Nat.le_refl _) _
  have hot0 := hot0 X ((hbx.block _ (heap_lt ha)).trans ha) ((hbx.block _ (heap_lt hb0)).trans hb0)
  have hot1 := hot1 X ((hbx.block _ (heap_lt ha)).trans ha) ((hbx.block _ (heap_lt hb1)).trans hb1)
  have hot2 := hot2 X ((hbx.block _ (heap_lt ha)).trans ha) ((hbx.block _ (heap_lt hb2)).trans hb2)
  have hot3 := hot3 X ((hbx.block _ (heap_lt ha)).trans ha) ((hbx.block _ (heap_lt hb3)).trans hb3)
  have hot4 := hot4 X ((hbx.block _ (heap_lt ha)).trans ha) ((hbx.block _ (heap_lt hb4)).trans hb4)
  have hot5 := hot5 X ((hbx.block _ (heap_lt ha)).trans ha) ((hbx.block _ (heap_lt hb5)).trans hb5)
  have hot6 := hot6 X ((hbx.block _ (heap_lt ha)).trans ha) ((hbx.block _ (heap_lt hb6)).trans hb6)
  have HX : Hid (Below w.heap.size w X) := hbx
  clear hX hbx g0 g1 g2 g3 g4 g5 g6 g7 ha hb0 hb1 hb2 hb3 hb4 hb5 hb6
  refine wp_loop_rounds 13 ?_
  rw [rounds_succ]
  go_wp2_with fail
  rw [rounds_succ]
  go_wp2_with fail
  rw [rounds_succ]
  go_wp2_with fail
  rw [rounds_succ]
  go_wp2_with fail
  rw [rounds_succ]
  go_wp2_with fail
  rw [rounds_succ]
  go_wp2_with fail
  rw [rounds_succ]
  go_wp2_with fail
  rw [rounds_succ]
  go_wp2_with fail
  rw [rounds_succ]
  go_wp2_with fail
  rw [rounds_succ]
  go_wp2_with fail
  rw [rounds_succ]
  go_wp2_with fail
  rw [rounds_succ]
  go_wp2_with fail
  rw [rounds_succ]
  go_wp2
  go_ret
  exact ⟨rfl, HX.out⟩
set_option maxRecDepth 1000000 in
set_option maxHeartbeats 1000000 in
/-- What Of tells of a sentinel, by what sentinel tells. -/
theorem of_sentinel {j c : Nat} (h8 : ((c : Int) == 8) = false) (h9 : ((c : Int) == 9) = false) (hse : ∀ W, Below w.heap.size w W → Calls Tryz.prog 38 #[.iface 349 (.pointer (some (A j)))] W fun e w' => e = .returned (.int .i64 (c : Int)) ∧ Below W.heap.size W w') : Calls Tryz.prog 21 #[.iface 349 (.pointer (some (A j)))] w fun e w' => e = .returned (told4 c 0 ⟨#[]⟩) ∧ Below w.heap.size w w' := by
  have t1 := Tryz.assertE1
  have t2 := Tryz.assertE2
  have t3 := Tryz.assertE3
  have hx : Below w.heap.size w (w.alloc (.cells #[.int .i64 0, .int .i64 0, .int .i64 0, .string { data := #[] }] 24)) := (Below.refl _ _).alloc (Nat.le_refl _) _
  have hse := hse _ hx
  have HX : Hid _ := hx
  clear hx
  go_enter Tryz.func21, Tryz.ntmps21
  go_wp2_with fail
  refine hse.mono ?_
  rintro e w1 ⟨rfl, hb1⟩
  have bn : w1.heap[w.heap.size]? = some (.cells #[.int .i64 0, .int .i64 0, .int .i64 0, .string { data := #[] }] 24 (0, 0)) := (hb1.block _ (by simp)).trans cells_new
  have c0 := cell_of_heap (i := 0) bn rfl
  have c1 := cell_of_heap (i := 1) bn rfl
  have c2 := cell_of_heap (i := 2) bn rfl
  have c3 := cell_of_heap (i := 3) bn rfl
  have z0 := frozen_of_heap (i := 0) bn
  have z1 := frozen_of_heap (i := 1) bn
  have z2 := frozen_of_heap (i := 2) bn
  have z3 := frozen_of_heap (i := 3) bn
  have HB : Hid (Below w.heap.size w w1) := HX.out.trans (hb1.mono (by simp))
  clear bn hb1 hse HX
  go_wp2
  refine bodyPost_ret (v := told4 c 0 ⟨#[]⟩) (by simp [told4, results, Tryz.results21, go_sem, c0, c1, c2, c3]) rfl ⟨rfl, ?_⟩
  iterate 4 (refine Below.setCell ?_ (by exact Nat.le_refl _) _)
  exact HB.out
theorem of_limits (h : SentsX A w) : Calls Tryz.prog 21 #[.iface 349 (.pointer (some (A 2)))] w fun e w' => e = .returned (told4 5 0 ⟨#[]⟩) ∧ Below w.heap.size w w' := of_sentinel (by decide) (by decide) fun _ hb => code_sentinel2 (h.below hb)
theorem of_stale (h : SentsX A w) : Calls Tryz.prog 21 #[.iface 349 (.pointer (some (A 3)))] w fun e w' => e = .returned (told4 6 0 ⟨#[]⟩) ∧ Below w.heap.size w w' := of_sentinel (by decide) (by decide) fun _ hb => code_sentinel3 (h.below hb)
theorem of_metric (h : SentsX A w) : Calls Tryz.prog 21 #[.iface 349 (.pointer (some (A 4)))] w fun e w' => e = .returned (told4 7 0 ⟨#[]⟩) ∧ Below w.heap.size w w' := of_sentinel (by decide) (by decide) fun _ hb => code_sentinel4 (h.below hb)
theorem of_cooling (h : SentsX A w) : Calls Tryz.prog 21 #[.iface 349 (.pointer (some (A 7)))] w fun e w' => e = .returned (told4 12 0 ⟨#[]⟩) ∧ Below w.heap.size w w' := of_sentinel (by decide) (by decide) fun _ hb => code_sentinel7 (h.below hb)
end
end Go.Proofs.YtaghcjpoihkpjaaGreatDoor
