/-
  plain.Of, plain.Same, scalerlaw.Names.
-/
import Derived.Test.YtbpedpejkpkgpaaDoorHold
namespace Go.Proofs.YtbpedpejkpkgpaaDoor
open Go.RowKit Go.Extern.Stop Go.Stop Go.Extern

theorem Tryd.assert36 (v : Value) (xT : TypeId) (w : World) : (Instr.typeAssert (.iface 31 v) xT 36 true).run Tryd.prog w = .ok (.tuple #[.pointer none, .bool false]) w := by kernel_rfl
theorem Tryd.assert39 (v : Value) (xT : TypeId) (w : World) : (Instr.typeAssert (.iface 31 v) xT 39 true).run Tryd.prog w = .ok (.tuple #[.pointer none, .bool false]) w := by kernel_rfl
theorem Tryd.assert31 (v : Value) (xT : TypeId) (w : World) : (Instr.typeAssert (.iface 31 v) xT 31 true).run Tryd.prog w = .ok (.tuple #[v, .bool true]) w := by kernel_rfl

set_option maxRecDepth 100000 in
set_option maxHeartbeats 400000 in
theorem of_div (hb : Nat) (n : Int) (a : Addr) (w : World) (hg : w.cell? ⟨8, 0, none⟩ = some (.iface 68 (.agg #[.pointer (some ⟨9, 28, none⟩)])))
    (h0 : w.cell? ⟨hb, 0, none⟩ = some (.int .i64 n)) (h1 : w.cell? ⟨hb, 1, none⟩ = some (.iface 82 (.pointer (some a))))
    (h5 : w.cell? ⟨5, 0, none⟩ = some (.iface 82 (.pointer (some a)))) :
    Calls Tryd.prog 5 #[.iface 31 (.pointer (some ⟨hb, 0, none⟩))] w fun e w' => e = .returned (.agg #[.int .i64 8, .int .i64 n, .int .i64 0, .string { data := #[] }]) ∧ w.Extends w' := by
  have t36 := Tryd.assert36
  have t39 := Tryd.assert39
  have t31 := Tryd.assert31
  have hx := (World.Extends.refl w).alloc (.cells #[.int .i64 0, .int .i64 0, .int .i64 0, .string { data := #[] }] 23)
  go_enter Tryd.func5, Tryd.ntmps5
  go_wp2_with fail
  refine (hold_div hb n a _ (hx.cell_of hg) (hx.cell_of h0) (hx.cell_of h1) (hx.cell_of h5)).mono ?_
  rintro e w1 ⟨rfl, hx1⟩
  have c0 := hx1.cell_of (a := ⟨w.heap.size, 0, none⟩) (v := .int .i64 0) (by go_simp)
  have c1 := hx1.cell_of (a := ⟨w.heap.size, 1, none⟩) (v := .int .i64 0) (by go_simp)
  have c2 := hx1.cell_of (a := ⟨w.heap.size, 2, none⟩) (v := .int .i64 0) (by go_simp)
  have c3 := hx1.cell_of (a := ⟨w.heap.size, 3, none⟩) (v := .string { data := #[] }) (by go_simp)
  have z0 : w1.frozen? ⟨w.heap.size, 0, none⟩ = false := by rw [hx1.frozen _ (by simp)]; go_simp
  have z1 : w1.frozen? ⟨w.heap.size, 1, none⟩ = false := by rw [hx1.frozen _ (by simp)]; go_simp
  have z2 : w1.frozen? ⟨w.heap.size, 2, none⟩ = false := by rw [hx1.frozen _ (by simp)]; go_simp
  have z3 : w1.frozen? ⟨w.heap.size, 3, none⟩ = false := by rw [hx1.frozen _ (by simp)]; go_simp
  have hx2 := hx.trans hx1
  clear hx hx1
  go_wp2
  refine bodyPost_ret (v := .agg #[.int .i64 8, .int .i64 n, .int .i64 0, .string { data := #[] }]) (by simp [results, Tryd.results5, go_sem, c0, c1, c2, c3]) rfl ⟨rfl, ?_⟩
  exact (((hx2.setCell _ _ (by simp)).setCell _ _ (by simp)).setCell _ _ (by simp)).setCell _ _ (by simp)

theorem run_neq_iface_ptr_other {P : Program} {w : World} {ti tp te : TypeId} {ms : Array (String × TypeId)} {i j : TypeInfo} {a b : Addr} {ca cb : Array Value} {ta tb : TypeId}
    (hi : P.underlying ti = some (.interface ms)) (hp : P.underlying tp = some (.pointer te)) (hinfo : P.info? tp = some i) (hcomp : i.comparable = true) (hte : P.info? te = some j) (hsz : j.size ≠ 0)
    (hne : a ≠ b) (ha : w.heap[a.block]? = some (.cells ca ta (0, 0))) (hb : w.heap[b.block]? = some (.cells cb tb (0, 0))) :
    (binOp .neq ti (.iface tp (.pointer (some a))) (.iface tp (.pointer (some b)))).run P w = .ok (.bool true) w := by
  simp only [binOp]
  simp [Op.equal, Op.maxDepth, run_equalIn_iface_ptr_other w 9998 hi hp hinfo hcomp hte hsz hne ha hb]

set_option maxRecDepth 100000 in
set_option maxHeartbeats 400000 in
theorem same_all (A : Nat → Addr) (w : World) (hg : w.cell? ⟨8, 0, none⟩ = some (.iface 68 (.agg #[.pointer (some ⟨9, 28, none⟩)])))
    (g0 : w.cell? ⟨0, 0, none⟩ = some (.iface 82 (.pointer (some (A 0))))) (g1 : w.cell? ⟨1, 0, none⟩ = some (.iface 82 (.pointer (some (A 1))))) (g2 : w.cell? ⟨2, 0, none⟩ = some (.iface 82 (.pointer (some (A 2))))) (g3 : w.cell? ⟨3, 0, none⟩ = some (.iface 82 (.pointer (some (A 3))))) (g4 : w.cell? ⟨4, 0, none⟩ = some (.iface 82 (.pointer (some (A 4))))) (g5 : w.cell? ⟨5, 0, none⟩ = some (.iface 82 (.pointer (some (A 5))))) (g6 : w.cell? ⟨6, 0, none⟩ = some (.iface 82 (.pointer (some (A 6))))) (g7 : w.cell? ⟨7, 0, none⟩ = some (.iface 82 (.pointer (some (A 7)))))
    (hne : ∀ i j, j < i → i < 8 → A i ≠ A j) (hbl : ∀ i, i < 8 → ∃ c t, w.heap[(A i).block]? = some (.cells c t (0, 0))) :
    Calls Tryd.prog 4 #[] w fun e w' => e = .returned (.tuple #[.bool true, .agg #[.int .i64 8, .int .i64 3, .int .i64 0, .string { data := #[] }]]) ∧ w.Extends w' := by
  have l0 : 0 < w.heap.size := World.block_lt_of_cell? _ _ g0
  have l1 : 1 < w.heap.size := World.block_lt_of_cell? _ _ g1
  have l2 : 2 < w.heap.size := World.block_lt_of_cell? _ _ g2
  have l3 : 3 < w.heap.size := World.block_lt_of_cell? _ _ g3
  have l4 : 4 < w.heap.size := World.block_lt_of_cell? _ _ g4
  have l5 : 5 < w.heap.size := World.block_lt_of_cell? _ _ g5
  have l6 : 6 < w.heap.size := World.block_lt_of_cell? _ _ g6
  have l7 : 7 < w.heap.size := World.block_lt_of_cell? _ _ g7
  obtain ⟨ti, hi, hcmp⟩ := Option.map_eq_some_iff.1 Tryd.isComp
  obtain ⟨tj, hj, hjs⟩ := Option.map_eq_some_iff.1 Tryd.isSize
  have hneq : ∀ i j, j < i → i < 8 → ∀ W, w.Extends W → (binOp .neq 28 (.iface 82 (.pointer (some (A i)))) (.iface 82 (.pointer (some (A j))))).run Tryd.prog W = .ok (.bool true) W := by
    intro i j hji hi8 W hW
    obtain ⟨ci, ui, hbi⟩ := hbl i hi8
    obtain ⟨cj, uj, hbj⟩ := hbl j (by omega)
    have hlt : ∀ {k : Nat} {o : Obj}, w.heap[k]? = some o → k < w.heap.size := fun h => by
      rcases Nat.lt_or_ge _ w.heap.size with h' | h'
      · exact h'
      · simp [Array.getElem?_eq_none h'] at h
    exact run_neq_iface_ptr_other Tryd.underlying28 Tryd.underlying82 hi hcmp hj (by rw [hjs]; decide) (hne i j hji hi8) ((hW.block _ (hlt hbi)).trans hbi) ((hW.block _ (hlt hbj)).trans hbj)
  have HN : Hid (∀ i j, j < i → i < 8 → ∀ W, w.Extends W → (binOp .neq 28 (.iface 82 (.pointer (some (A i)))) (.iface 82 (.pointer (some (A j))))).run Tryd.prog W = .ok (.bool true) W) := hneq
  have HH : Hid (w.cell? ⟨8, 0, none⟩ = some (.iface 68 (.agg #[.pointer (some ⟨9, 28, none⟩)]))) := hg
  clear hneq hg hne hbl hi hcmp hj hjs
  go_enter Tryd.func4, Tryd.ntmps4
  go_wp2_with fail
  obtain ⟨X, hX⟩ : ∃ X, X = (w.alloc (.cells #[.int .i64 0, .int .i64 0, .int .i64 0, .string { data := #[] }] 23)).alloc (.cells #[.iface 82 (.pointer (some (A 0))), .iface 82 (.pointer (some (A 1))), .iface 82 (.pointer (some (A 2))), .iface 82 (.pointer (some (A 3))), .iface 82 (.pointer (some (A 4))), .iface 82 (.pointer (some (A 5))), .iface 82 (.pointer (some (A 6))), .iface 82 (.pointer (some (A 7)))] 28) := ⟨_, rfl⟩
  rw [← hX]
  have HX : Hid (w.Extends X) := by
    rw [hX]
    exact ((World.Extends.refl w).alloc _).alloc _
  have HC : Hid (∀ k, k < 8 → X.cell? ⟨w.heap.size + 1, k, none⟩ = some (.iface 82 (.pointer (some (A k))))) := by
    rw [hX]
    intro k hk
    match k, hk with
    | 0, _ | 1, _ | 2, _ | 3, _ | 4, _ | 5, _ | 6, _ | 7, _ => go_simp
  have c0 : X.cell? ⟨w.heap.size, 0, none⟩ = some (.int .i64 0) := by rw [hX]; go_simp
  have c1 : X.cell? ⟨w.heap.size, 1, none⟩ = some (.int .i64 0) := by rw [hX]; go_simp
  have c2 : X.cell? ⟨w.heap.size, 2, none⟩ = some (.int .i64 0) := by rw [hX]; go_simp
  have c3 : X.cell? ⟨w.heap.size, 3, none⟩ = some (.string { data := #[] }) := by rw [hX]; go_simp
  have z0 : X.frozen? ⟨w.heap.size, 0, none⟩ = false := by rw [hX]; go_simp
  have z1 : X.frozen? ⟨w.heap.size, 1, none⟩ = false := by rw [hX]; go_simp
  have z2 : X.frozen? ⟨w.heap.size, 2, none⟩ = false := by rw [hX]; go_simp
  have z3 : X.frozen? ⟨w.heap.size, 3, none⟩ = false := by rw [hX]; go_simp
  have k5 : X.cell? ⟨5, 0, none⟩ = some (.iface 82 (.pointer (some (A 5)))) := HX.out.cell_of g5
  have sz : w.heap.size + 1 < X.heap.size := by rw [hX]; simp
  clear hX g0 g1 g2 g3 g4 g6 g7
  go_loopw [3, 17] (fun t i wr => ∃ k q : Nat, k ≤ 8 ∧ i = .int .i64 k ∧ t = .bool true ∧ wr = X.drewN q)
                 (fun _ i _ => 8 - (intOf i).toNat)
  case atStart => exact ⟨0, 0, Nat.zero_le _, rfl, rfl, rfl⟩
  case round =>
    obtain ⟨k, q, hk, rfl, rfl, rfl⟩ := hrel
    rcases Nat.lt_or_ge k 8 with h8 | h8
    · have hck := HC.out k h8
      go_wp2_with fail
      go_loopw [3, 29] (fun t i wr => ∃ j q : Nat, j ≤ k ∧ i = .int .i64 j ∧ t = .bool true ∧ wr = X.drewN q)
                     (fun _ i _ => k - (intOf i).toNat)
      case atStart => exact ⟨0, q, Nat.zero_le _, rfl, rfl, rfl⟩
      case round =>
        obtain ⟨j, q, hj, rfl, rfl, rfl⟩ := hrel
        rcases Nat.lt_or_ge j k with hjk | hjk
        · have hcj := HC.out j (by omega)
          have hnq := fun m => HN.out k j hjk h8 (X.drewN m) (HX.out.trans (World.drewN_extends X m))
          go_wp2_with fail
          go_quiet (fail)
          go_wp2
          go_roundw
          case rel => exact ⟨j + 1, _, by omega, by go_num, rfl, rfl⟩
          case measure => simp [intOf]; omega
        · go_wp2_with fail
          go_roundw
          case rel => exact ⟨k + 1, _, by omega, by go_num, rfl, rfl⟩
          case measure => simp [intOf]; omega
    · obtain rfl : k = 8 := by omega
      have hx1 := (HX.out.trans (World.drewN_extends X q)).alloc (.cells #[.int .i64 3, .iface 82 (.pointer (some (A 5)))] 35)
      have hy1 := (World.drewN_extends X q).alloc (.cells #[.int .i64 3, .iface 82 (.pointer (some (A 5)))] 35)
      go_wp2_with fail
      refine (of_div X.heap.size 3 (A 5) _ (hx1.cell_of HH.out) (World.cell?_alloc_at (w := X.drewN q) _ _ _ _ rfl) (World.cell?_alloc_at (w := X.drewN q) _ _ _ _ rfl) (hx1.cell_of g5)).mono ?_
      rintro e w1 ⟨rfl, hx2⟩
      have hy2 := hy1.trans hx2
      have d0 := hy2.cell_of c0
      have d1 := hy2.cell_of c1
      have d2 := hy2.cell_of c2
      have d3 := hy2.cell_of c3
      have y0 := (hy2.frozen ⟨w.heap.size, 0, none⟩ (by simp; omega)).trans z0
      have y1 := (hy2.frozen ⟨w.heap.size, 1, none⟩ (by simp; omega)).trans z1
      have y2 := (hy2.frozen ⟨w.heap.size, 2, none⟩ (by simp; omega)).trans z2
      have y3 := (hy2.frozen ⟨w.heap.size, 3, none⟩ (by simp; omega)).trans z3
      have hx3 := hx1.trans hx2
      clear hx1 hy1 hx2 hy2 c0 c1 c2 c3 z0 z1 z2 z3
      go_wp2
      refine bodyPost_ret (v := .tuple #[.bool true, .agg #[.int .i64 8, .int .i64 3, .int .i64 0, .string { data := #[] }]]) (by simp [results, Tryd.results4, go_sem, d0, d1, d2, d3]) rfl ⟨rfl, ?_⟩
      exact (((hx3.setCell _ _ (by simp)).setCell _ _ (by simp)).setCell _ _ (by simp)).setCell _ _ (by simp)

set_option maxRecDepth 100000 in
theorem names_all (A : Nat → Addr) (w : World) (hg : w.cell? ⟨8, 0, none⟩ = some (.iface 68 (.agg #[.pointer (some ⟨9, 28, none⟩)])))
    (g0 : w.cell? ⟨0, 0, none⟩ = some (.iface 82 (.pointer (some (A 0))))) (g1 : w.cell? ⟨1, 0, none⟩ = some (.iface 82 (.pointer (some (A 1))))) (g2 : w.cell? ⟨2, 0, none⟩ = some (.iface 82 (.pointer (some (A 2))))) (g3 : w.cell? ⟨3, 0, none⟩ = some (.iface 82 (.pointer (some (A 3))))) (g4 : w.cell? ⟨4, 0, none⟩ = some (.iface 82 (.pointer (some (A 4))))) (g5 : w.cell? ⟨5, 0, none⟩ = some (.iface 82 (.pointer (some (A 5))))) (g6 : w.cell? ⟨6, 0, none⟩ = some (.iface 82 (.pointer (some (A 6))))) (g7 : w.cell? ⟨7, 0, none⟩ = some (.iface 82 (.pointer (some (A 7)))))
    (hne : ∀ i j, j < i → i < 8 → A i ≠ A j) (hbl : ∀ i, i < 8 → ∃ c t, w.heap[(A i).block]? = some (.cells c t (0, 0))) :
    Calls Tryd.prog 3 #[] w fun e w' => e = .returned (.bool true) ∧ w.Extends w' := by
  have hx := same_all A w hg g0 g1 g2 g3 g4 g5 g6 g7 hne hbl
  clear hg g0 g1 g2 g3 g4 g5 g6 g7 hne hbl
  go_enter Tryd.func3, Tryd.ntmps3
  go_wp2_with fail
  refine hx.mono ?_
  rintro e w1 ⟨rfl, hx1⟩
  go_wp2
  go_ret
  exact ⟨rfl, hx1.alloc _⟩
end Go.Proofs.YtbpedpejkpkgpaaDoor
