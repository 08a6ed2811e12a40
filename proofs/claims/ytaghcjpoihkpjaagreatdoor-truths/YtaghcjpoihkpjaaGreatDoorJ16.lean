/-
  plain.hold AT A HoldError, WALKED.
-/
import Derived.Test.YtaghcjpoihkpjaaGreatDoorJ15
namespace Go.Proofs.YtaghcjpoihkpjaaGreatDoor
open Go.RowKit Go.Extern.Stop Go.Stop Go.Extern

set_option maxRecDepth 1000000 in
set_option maxHeartbeats 1000000 in
theorem hold_noData (hb : Nat) (n : Int) (a : Addr) (w : World) (hg : EType w) (h0 : w.cell? ⟨hb, 0, none⟩ = some (.int .i64 n)) (h1 : w.cell? ⟨hb, 1, none⟩ = some (.iface 349 (.pointer (some a)))) (c : Addr) (h5 : w.cell? ⟨5, 0, none⟩ = some (.iface 349 (.pointer (some c)))) (h6 : w.cell? ⟨6, 0, none⟩ = some (.iface 349 (.pointer (some a)))) (hne : a ≠ c) {ca cc : Array Value} {ta tc : TypeId} (ha : w.heap[a.block]? = some (.cells ca ta (0, 0))) (hc : w.heap[c.block]? = some (.cells cc tc (0, 0))) :
    Calls Tryz.prog 37 #[.pointer (some ⟨hb, 0, none⟩)] w fun e w' => e = .returned (toldH 9 n 0) ∧ Below w.heap.size w w' := by
  have hlg : 8 < w.heap.size := World.block_lt_of_cell? _ _ hg
  have hlb : hb < w.heap.size := World.block_lt_of_cell? _ _ h0
  obtain ⟨i, hi, hcmp⟩ := Option.map_eq_some_iff.1 Tryz.isCompE
  obtain ⟨j, hj, hjs⟩ := Option.map_eq_some_iff.1 Tryz.isSizeE
  have heq := fun W => run_eql_iface_ptr_same (P := Tryz.prog) W a Tryz.underlying50 Tryz.underlying349 hi hcmp hj
  clear hi hcmp hj hjs
  go_enter Tryz.func37, Tryz.ntmps37
  go_wp2_with fail
  refine (as_miss_PE hb 0 a _ _ ?_ ?_).mono ?_
  · exact cellB (w := w) (by repeat (first | exact Below.refl _ _ | refine Below.setCell ?_ (by first | exact Nat.le_refl _ | (simp; done) | (simp; omega)) _ | refine Below.alloc ?_ (by first | exact Nat.le_refl _ | (simp; done) | (simp; omega)) _)) hg
  · exact cellB (w := w) (by repeat (first | exact Below.refl _ _ | refine Below.setCell ?_ (by first | exact Nat.le_refl _ | (simp; done) | (simp; omega)) _ | refine Below.alloc ?_ (by first | exact Nat.le_refl _ | (simp; done) | (simp; omega)) _)) h1
  rintro e w' ⟨rfl, rfl⟩
  go_wp2_with fail
  refine (as_miss_OE hb 0 a _ _ ?_ ?_).mono ?_
  · exact cellB (w := w) (by repeat (first | exact Below.refl _ _ | refine Below.setCell ?_ (by first | exact Nat.le_refl _ | (simp; done) | (simp; omega)) _ | refine Below.alloc ?_ (by first | exact Nat.le_refl _ | (simp; done) | (simp; omega)) _)) hg
  · exact cellB (w := w) (by repeat (first | exact Below.refl _ _ | refine Below.setCell ?_ (by first | exact Nat.le_refl _ | (simp; done) | (simp; omega)) _ | refine Below.alloc ?_ (by first | exact Nat.le_refl _ | (simp; done) | (simp; omega)) _)) h1
  rintro e w1 ⟨rfl, hw1⟩
  have HX : Hid (Below w.heap.size w w1) := by
    show Below w.heap.size w w1
    rw [hw1]
    repeat (first | exact Below.refl _ _ | refine Below.setCell ?_ (by first | exact Nat.le_refl _ | (simp; done) | (simp; omega)) _ | refine Below.alloc ?_ (by first | exact Nat.le_refl _ | (simp; done) | (simp; omega)) _)
  have HX2 : Hid (∀ n, Below w.heap.size w (w1.drewN n)) := fun n => ⟨HX.out.os, HX.out.tape, HX.out.output, HX.out.size, HX.out.block⟩
  have c00 : w1.cell? ⟨w.heap.size, 0, none⟩ = some (.int .i64 0) := by rw [hw1]; go_simp
  have z00 : w1.frozen? ⟨w.heap.size, 0, none⟩ = false := by rw [hw1]; go_simp
  have c01 : w1.cell? ⟨w.heap.size, 1, none⟩ = some (.int .i64 0) := by rw [hw1]; go_simp
  have z01 : w1.frozen? ⟨w.heap.size, 1, none⟩ = false := by rw [hw1]; go_simp
  have c02 : w1.cell? ⟨w.heap.size, 2, none⟩ = some (.int .i64 0) := by rw [hw1]; go_simp
  have z02 : w1.frozen? ⟨w.heap.size, 2, none⟩ = false := by rw [hw1]; go_simp
  have c03 : w1.cell? ⟨w.heap.size, 3, none⟩ = some (.string { data := #[] }) := by rw [hw1]; go_simp
  have z03 : w1.frozen? ⟨w.heap.size, 3, none⟩ = false := by rw [hw1]; go_simp
  have c10 : w1.cell? ⟨w.heap.size + 1, 0, none⟩ = some (.int .i64 99) := by rw [hw1]; go_simp
  have z10 : w1.frozen? ⟨w.heap.size + 1, 0, none⟩ = false := by rw [hw1]; go_simp
  have c11 : w1.cell? ⟨w.heap.size + 1, 1, none⟩ = some (.int .i64 n) := by rw [hw1]; go_simp
  have z11 : w1.frozen? ⟨w.heap.size + 1, 1, none⟩ = false := by rw [hw1]; go_simp
  have c12 : w1.cell? ⟨w.heap.size + 1, 2, none⟩ = some (.int .i64 0) := by rw [hw1]; go_simp
  have z12 : w1.frozen? ⟨w.heap.size + 1, 2, none⟩ = false := by rw [hw1]; go_simp
  have c13 : w1.cell? ⟨w.heap.size + 1, 3, none⟩ = some (.string { data := #[] }) := by rw [hw1]; go_simp
  have z13 : w1.frozen? ⟨w.heap.size + 1, 3, none⟩ = false := by rw [hw1]; go_simp
  clear hw1
  have hE := cellB HX.out h1
  have hE5 := cellB HX.out h5
  have hE6 := cellB HX.out h6
  have ha1 := (HX.out.block _ (heap_lt ha)).trans ha
  have hc1 := (HX.out.block _ (heap_lt hc)).trans hc
  go_wp2_with fail
  go_quiet (first | (go_at_call 50; refine Calls.quiet_of_same (is_miss hb 0 a c hne _ (by exact ha1) (by exact hc1) (by exact hE))))
  obtain ⟨w2, hw2⟩ : ∃ w2, w2 = w1.drewN nq := ⟨_, rfl⟩
  rw [← hw2]
  replace c00 : w2.cell? ⟨w.heap.size, 0, none⟩ = some (.int .i64 0) := by rw [hw2]; exact c00
  replace z00 : w2.frozen? ⟨w.heap.size, 0, none⟩ = false := by rw [hw2]; exact z00
  replace c01 : w2.cell? ⟨w.heap.size, 1, none⟩ = some (.int .i64 0) := by rw [hw2]; exact c01
  replace z01 : w2.frozen? ⟨w.heap.size, 1, none⟩ = false := by rw [hw2]; exact z01
  replace c02 : w2.cell? ⟨w.heap.size, 2, none⟩ = some (.int .i64 0) := by rw [hw2]; exact c02
  replace z02 : w2.frozen? ⟨w.heap.size, 2, none⟩ = false := by rw [hw2]; exact z02
  replace c03 : w2.cell? ⟨w.heap.size, 3, none⟩ = some (.string { data := #[] }) := by rw [hw2]; exact c03
  replace z03 : w2.frozen? ⟨w.heap.size, 3, none⟩ = false := by rw [hw2]; exact z03
  replace c10 : w2.cell? ⟨w.heap.size + 1, 0, none⟩ = some (.int .i64 99) := by rw [hw2]; exact c10
  replace z10 : w2.frozen? ⟨w.heap.size + 1, 0, none⟩ = false := by rw [hw2]; exact z10
  replace c11 : w2.cell? ⟨w.heap.size + 1, 1, none⟩ = some (.int .i64 n) := by rw [hw2]; exact c11
  replace z11 : w2.frozen? ⟨w.heap.size + 1, 1, none⟩ = false := by rw [hw2]; exact z11
  replace c12 : w2.cell? ⟨w.heap.size + 1, 2, none⟩ = some (.int .i64 0) := by rw [hw2]; exact c12
  replace z12 : w2.frozen? ⟨w.heap.size + 1, 2, none⟩ = false := by rw [hw2]; exact z12
  replace c13 : w2.cell? ⟨w.heap.size + 1, 3, none⟩ = some (.string { data := #[] }) := by rw [hw2]; exact c13
  replace z13 : w2.frozen? ⟨w.heap.size + 1, 3, none⟩ = false := by rw [hw2]; exact z13
  replace hE : w2.cell? ⟨hb, 1, none⟩ = some (.iface 349 (.pointer (some a))) := by rw [hw2]; exact hE
  replace hE6 : w2.cell? ⟨6, 0, none⟩ = some (.iface 349 (.pointer (some a))) := by rw [hw2]; exact hE6
  replace HX : Hid (Below w.heap.size w w2) := by show Below w.heap.size w w2; rw [hw2]; exact HX2.out nq
  replace HX2 : Hid (∀ n, Below w.heap.size w (w2.drewN n)) := fun n => ⟨HX.out.os, HX.out.tape, HX.out.output, HX.out.size, HX.out.block⟩
  clear hw2 ha1 hc1 hE5
  go_wp2_with fail
  go_quiet (first | (go_at_call 50; refine Calls.quiet_of_same (is_hit hb 0 a _ ?_); exact hE))
  go_wp2
  refine bodyPost_ret (v := toldH 9 n 0) (by simp [toldH, results, Tryz.results37, go_sem, c00, c01, c02, c03]) rfl ⟨rfl, ?_⟩
  iterate 5 (refine Below.setCell ?_ (by first | exact Nat.le_refl _ | (simp; done)) _)
  exact HX2.out _
end Go.Proofs.YtaghcjpoihkpjaaGreatDoor
namespace Go.Proofs.YtaghcjpoihkpjaaGreatDoor
open Go.RowKit Go.Extern.Stop Go.Stop Go.Extern

set_option maxRecDepth 1000000 in
set_option maxHeartbeats 4000000 in
theorem hold_panic (hb c : Nat) (n : Int) (a : Addr) (w : World) (hg : EType w) (h0 : w.cell? ⟨hb, 0, none⟩ = some (.int .i64 n)) (h1 : w.cell? ⟨hb, 1, none⟩ = some (.iface 149 (.pointer (some a)))) (m : Int) (hv : w.cell? ⟨c, 0, none⟩ = some (.iface 2 (.int .i64 m))) (ha : a = ⟨c, 0, none⟩) :
    Calls Tryz.prog 37 #[.pointer (some ⟨hb, 0, none⟩)] w fun e w' => e = .returned (toldH 11 n m) ∧ Below w.heap.size w w' := by
  have hlg : 8 < w.heap.size := World.block_lt_of_cell? _ _ hg
  have hlb : hb < w.heap.size := World.block_lt_of_cell? _ _ h0
  subst ha
  obtain ⟨i, hi, hcmp⟩ := Option.map_eq_some_iff.1 Tryz.compP
  obtain ⟨j, hj, hjs⟩ := Option.map_eq_some_iff.1 Tryz.sizeP
  have heq := fun W => run_eql_iface_ptr_same (P := Tryz.prog) W ⟨c, 0, none⟩ Tryz.underlying50 Tryz.underlying149 hi hcmp hj
  clear hi hcmp hj hjs
  go_enter Tryz.func37, Tryz.ntmps37
  go_wp2_with fail
  refine (as_hit_P hb 0 ⟨c, 0, none⟩ _ (.pointer none) _ ?_ ?_ ?_ ?_).mono ?_
  · exact cellB (w := w) (by repeat (first | exact Below.refl _ _ | refine Below.setCell ?_ (by first | exact Nat.le_refl _ | (simp; done) | (simp; omega)) _ | refine Below.alloc ?_ (by first | exact Nat.le_refl _ | (simp; done) | (simp; omega)) _)) hg
  · exact cellB (w := w) (by repeat (first | exact Below.refl _ _ | refine Below.setCell ?_ (by first | exact Nat.le_refl _ | (simp; done) | (simp; omega)) _ | refine Below.alloc ?_ (by first | exact Nat.le_refl _ | (simp; done) | (simp; omega)) _)) h1
  · go_simp
  · go_simp
  rintro e w1 ⟨rfl, hw1⟩
  have HX : Hid (Below w.heap.size w w1) := by
    show Below w.heap.size w w1
    rw [hw1]
    repeat (first | exact Below.refl _ _ | refine Below.setCell ?_ (by first | exact Nat.le_refl _ | (simp; done) | (simp; omega)) _ | refine Below.alloc ?_ (by first | exact Nat.le_refl _ | (simp; done) | (simp; omega)) _)
  have HX2 : Hid (∀ n, Below w.heap.size w (w1.drewN n)) := fun n => ⟨HX.out.os, HX.out.tape, HX.out.output, HX.out.size, HX.out.block⟩
  have c00 : w1.cell? ⟨w.heap.size, 0, none⟩ = some (.int .i64 0) := by rw [hw1]; go_simp
  have z00 : w1.frozen? ⟨w.heap.size, 0, none⟩ = false := by rw [hw1]; go_simp
  have c01 : w1.cell? ⟨w.heap.size, 1, none⟩ = some (.int .i64 0) := by rw [hw1]; go_simp
  have z01 : w1.frozen? ⟨w.heap.size, 1, none⟩ = false := by rw [hw1]; go_simp
  have c02 : w1.cell? ⟨w.heap.size, 2, none⟩ = some (.int .i64 0) := by rw [hw1]; go_simp
  have z02 : w1.frozen? ⟨w.heap.size, 2, none⟩ = false := by rw [hw1]; go_simp
  have c03 : w1.cell? ⟨w.heap.size, 3, none⟩ = some (.string { data := #[] }) := by rw [hw1]; go_simp
  have z03 : w1.frozen? ⟨w.heap.size, 3, none⟩ = false := by rw [hw1]; go_simp
  have c10 : w1.cell? ⟨w.heap.size + 1, 0, none⟩ = some (.int .i64 99) := by rw [hw1]; go_simp
  have z10 : w1.frozen? ⟨w.heap.size + 1, 0, none⟩ = false := by rw [hw1]; go_simp
  have c11 : w1.cell? ⟨w.heap.size + 1, 1, none⟩ = some (.int .i64 n) := by rw [hw1]; go_simp
  have z11 : w1.frozen? ⟨w.heap.size + 1, 1, none⟩ = false := by rw [hw1]; go_simp
  have c12 : w1.cell? ⟨w.heap.size + 1, 2, none⟩ = some (.int .i64 0) := by rw [hw1]; go_simp
  have z12 : w1.frozen? ⟨w.heap.size + 1, 2, none⟩ = false := by rw [hw1]; go_simp
  have c13 : w1.cell? ⟨w.heap.size + 1, 3, none⟩ = some (.string { data := #[] }) := by rw [hw1]; go_simp
  have z13 : w1.frozen? ⟨w.heap.size + 1, 3, none⟩ = false := by rw [hw1]; go_simp
  have cP : w1.cell? ⟨w.heap.size + 2, 0, none⟩ = some (.pointer (some ⟨c, 0, none⟩)) := by rw [hw1]; go_simp
  clear hw1
  have hE := cellB HX.out h1
  have hV := cellB HX.out hv
  have hta := Tryz.assert64
  go_wp2_with fail
  go_quiet (fail)
  go_wp2
  refine bodyPost_ret (v := toldH 11 n m) (by simp [toldH, results, Tryz.results37, go_sem, c00, c01, c02, c03]) rfl ⟨rfl, ?_⟩
  iterate 6 (refine Below.setCell ?_ (by first | exact Nat.le_refl _ | (simp; done)) _)
  exact HX2.out _
end Go.Proofs.YtaghcjpoihkpjaaGreatDoor
