/-
  THE PROGRAM's Parse, AS IT IS TOLD: scaler.Parse, sentinel, plain.Of, plain.Parse, WALKED.
-/
import Derived.Test.YtihmgoahobbdkaaGreatDoorCodeN
import Derived.LaidEql
namespace Go.Proofs.YtihmgoahobbdkaaGreatDoor
open Go.RowKit Go.Lib

/-- A policy that was read. -/
def CPol (lo : Nat) (w : World) (t : Tree) (p : Addr) : Prop :=
  ∃ pb a, p = ⟨pb, 0, none⟩ ∧ lo ≤ pb ∧ w.heap[pb]? = some (.cells #[.pointer (some a)] 109 (0, 0)) ∧ CTree lo w t a
theorem CPol.below {lo : Nat} {w w' : World} {t : Tree} {p : Addr} (h : CPol lo w t p) (hb : Below w.heap.size w w') : CPol lo w' t p := by
  obtain ⟨pb, a, h1, h2, h3, h4⟩ := h
  exact ⟨pb, a, h1, h2, (hb.block _ (heap_lt h3)).trans h3, h4.below hb⟩
set_option maxRecDepth 1000000 in
set_option maxHeartbeats 1000000 in
theorem code_Parse (s : ByteArray) (w : World) (hT : Tabs w) (A : Addr) (hv : w.cell? ⟨1, 0, none⟩ = some (.iface 355 (.pointer (some A)))) :
    Calls Tryz.prog 23 #[.string s] w fun e w' => Below w.heap.size w w' ∧ CRead s (.iface 355 (.pointer (some A))) (CPol w.heap.size) w' e := by
  have hr := code_Read s w hT _ hv
  clear hT
  go_enter Tryz.func23, Tryz.ntmps23
  go_wp2_with fail
  refine hr.mono ?_
  rintro e w1 ⟨hb, hc⟩
  have HB : Hid (Below w.heap.size w w1) := hb
  have hsz := hb.size
  clear hr hb
  rcases hc with ⟨h1, rfl⟩ | ⟨h1, ⟨J, b, h2, rfl, h3⟩ | ⟨t, J, a, h2, h3, rfl, h4⟩⟩
  · go_wp2
    go_ret2
    exact ⟨HB.out, .inl ⟨h1, rfl⟩⟩
  · have H2 : Hid _ := h2
    have H3 : Hid (BadAt s w1 b J) := h3
    clear h2 h3
    go_wp2
    go_ret2
    exact ⟨HB.out, .inr ⟨h1, .inl ⟨J, b, H2.out, rfl, H3.out⟩⟩⟩
  · have H2 : Hid _ := h2
    have H4 : Hid (CTree w.heap.size w1 t a) := h4
    clear h2 h4
    go_wp2
    go_ret2
    exact ⟨HB.out.alloc hsz _, .inr ⟨h1, .inr ⟨t, J, _, H2.out, h3, rfl, _, a, rfl, hsz, heap_alloc_new _ _, H4.out.below ((Below.refl _ _).alloc (Nat.le_refl _) _)⟩⟩⟩

/-- The sentinels, each where it lies. -/
structure Sents (A : Nat → Addr) (w : World) : Prop where
  g0 : w.cell? ⟨1, 0, none⟩ = some (.iface 355 (.pointer (some (A 0))))
  g1 : w.cell? ⟨0, 0, none⟩ = some (.iface 355 (.pointer (some (A 1))))
  g2 : w.cell? ⟨4, 0, none⟩ = some (.iface 355 (.pointer (some (A 2))))
  g3 : w.cell? ⟨5, 0, none⟩ = some (.iface 355 (.pointer (some (A 3))))
  g4 : w.cell? ⟨6, 0, none⟩ = some (.iface 355 (.pointer (some (A 4))))
  g5 : w.cell? ⟨2, 0, none⟩ = some (.iface 355 (.pointer (some (A 5))))
  g6 : w.cell? ⟨3, 0, none⟩ = some (.iface 355 (.pointer (some (A 6))))
  g7 : w.cell? ⟨7, 0, none⟩ = some (.iface 355 (.pointer (some (A 7))))
theorem Sents.below {A : Nat → Addr} {w w' : World} (h : Sents A w) (hb : Below w.heap.size w w') : Sents A w' :=
  ⟨cell_below hb h.g0, cell_below hb h.g1, cell_below hb h.g2, cell_below hb h.g3, cell_below hb h.g4, cell_below hb h.g5, cell_below hb h.g6, cell_below hb h.g7⟩

theorem Tryz.isComp : (Tryz.prog.info? 355).map (·.comparable) = some true := by kernel_rfl
theorem Tryz.isSize : (Tryz.prog.info? 379).map (·.size) = some 1 := by kernel_rfl
set_option maxRecDepth 1000000 in
set_option maxHeartbeats 1000000 in
theorem code_sentinel {A : Nat → Addr} {w : World} (h : Sents A w) :
    Calls Tryz.prog 43 #[.iface 355 (.pointer (some (A 0)))] w fun e w' => e = .returned (.int .i64 1) ∧ Below w.heap.size w w' := by
  obtain ⟨g0, g1, g2, g3, g4, g5, g6, g7⟩ := h
  obtain ⟨ti, hi, hcmp⟩ := Option.map_eq_some_iff.1 Tryz.isComp
  obtain ⟨tj, hj, hjs⟩ := Option.map_eq_some_iff.1 Tryz.isSize
  have heq := fun W => run_eql_iface_ptr_same (P := Tryz.prog) W (A 0) Tryz.underlying60 Tryz.underlying355 hi hcmp hj
  clear hi hcmp hj hjs
  go_enter Tryz.func43, Tryz.ntmps43
  go_wp2_with fail
  obtain ⟨X, hX⟩ : ∃ X, X = w.alloc (.cells #[.nilIface, .iface 355 (.pointer (some (A 0))), .nilIface, .nilIface, .iface 355 (.pointer (some (A 1))), .iface 355 (.pointer (some (A 2))), .iface 355 (.pointer (some (A 3))), .iface 355 (.pointer (some (A 4))), .iface 355 (.pointer (some (A 5))), .iface 355 (.pointer (some (A 6))), .nilIface, .nilIface, .iface 355 (.pointer (some (A 7)))] 60) := ⟨_, rfl⟩
  rw [← hX]
  have x0 : X.cell? ⟨w.heap.size, 0, none⟩ = some .nilIface := by rw [hX]; go_simp
  have x1 : X.cell? ⟨w.heap.size, 1, none⟩ = some (.iface 355 (.pointer (some (A 0)))) := by rw [hX]; go_simp
  have HX : Hid (Below w.heap.size w X) := by rw [hX]; exact (Below.refl _ _).alloc (Nat.le_refl _) _
  clear hX g0 g1 g2 g3 g4 g5 g6 g7
  refine wp_loop_rounds 2 ?_
  rw [rounds_succ]
  go_wp2_with fail
  rw [rounds_succ]
  go_wp2
  go_ret
  exact ⟨rfl, HX.out⟩

/-- What plain.Of gives: a Told. -/
abbrev told (e at_ : Int) : Value := .agg #[.int .i64 e, .int .i64 at_, .int .i64 0, .string { data := #[] }]
theorem Tryz.assertS (v : Value) (xT : TypeId) (w : World) : (Instr.typeAssert (.iface 110 v) xT 110 true).run Tryz.prog w = .ok (.tuple #[v, .bool true]) w := by kernel_rfl
theorem Tryz.assertE1 (v : Value) (xT : TypeId) (w : World) : (Instr.typeAssert (.iface 355 v) xT 110 true).run Tryz.prog w = .ok (.tuple #[.pointer none, .bool false]) w := by kernel_rfl
theorem Tryz.assertE2 (v : Value) (xT : TypeId) (w : World) : (Instr.typeAssert (.iface 355 v) xT 115 true).run Tryz.prog w = .ok (.tuple #[.pointer none, .bool false]) w := by kernel_rfl
theorem Tryz.assertE3 (v : Value) (xT : TypeId) (w : World) : (Instr.typeAssert (.iface 355 v) xT 118 true).run Tryz.prog w = .ok (.tuple #[.pointer none, .bool false]) w := by kernel_rfl

set_option maxRecDepth 1000000 in
set_option maxHeartbeats 1000000 in
theorem of_nil (w : World) : Calls Tryz.prog 24 #[.nilIface] w fun e w' => e = .returned (told 0 0) ∧ Below w.heap.size w w' := by
  have HX : Hid (Below w.heap.size w (w.alloc (.cells #[.int .i64 0, .int .i64 0, .int .i64 0, .string { data := #[] }] 23))) := (Below.refl _ _).alloc (Nat.le_refl _) _
  go_enter Tryz.func24, Tryz.ntmps24
  go_wp2
  refine bodyPost_ret (v := told 0 0) (by simp [results, Tryz.results24, go_sem]) rfl ⟨rfl, ?_⟩
  exact (Below.refl _ _).alloc (Nat.le_refl _) _

set_option maxRecDepth 1000000 in
set_option maxHeartbeats 1000000 in
theorem of_syntax {b : Nat} {n : Int} (w : World) (h : w.heap[b]? = some (.cells #[.int .i64 n] 114 (0, 0))) : Calls Tryz.prog 24 #[.iface 110 (.pointer (some ⟨b, 0, none⟩))] w fun e w' => e = .returned (told 2 n) ∧ Below w.heap.size w w' := by
  have c0 := cell_of_heap (i := 0) h rfl
  have lb := heap_lt h
  have ts := Tryz.assertS
  have HX : Hid (Below w.heap.size w (w.alloc (.cells #[.int .i64 0, .int .i64 0, .int .i64 0, .string { data := #[] }] 23))) := (Below.refl _ _).alloc (Nat.le_refl _) _
  clear h
  go_enter Tryz.func24, Tryz.ntmps24
  go_wp2
  refine bodyPost_ret (v := told 2 n) (by simp [results, Tryz.results24, go_sem]) rfl ⟨rfl, ?_⟩
  exact (Below.refl _ _).alloc (Nat.le_refl _) _

set_option maxRecDepth 1000000 in
set_option maxHeartbeats 1000000 in
theorem of_long {A : Nat → Addr} {w : World} (h : Sents A w) : Calls Tryz.prog 24 #[.iface 355 (.pointer (some (A 0)))] w fun e w' => e = .returned (told 1 0) ∧ Below w.heap.size w w' := by
  have t1 := Tryz.assertE1
  have t2 := Tryz.assertE2
  have t3 := Tryz.assertE3
  have hx : Below w.heap.size w (w.alloc (.cells #[.int .i64 0, .int .i64 0, .int .i64 0, .string { data := #[] }] 23)) := (Below.refl _ _).alloc (Nat.le_refl _) _
  have hse := code_sentinel (h.below hx)
  have HX : Hid (Below w.heap.size w (w.alloc (.cells #[.int .i64 0, .int .i64 0, .int .i64 0, .string { data := #[] }] 23))) := hx
  clear h hx
  go_enter Tryz.func24, Tryz.ntmps24
  go_wp2_with fail
  refine hse.mono ?_
  rintro e w1 ⟨rfl, hb1⟩
  have bn : w1.heap[w.heap.size]? = some (.cells #[.int .i64 0, .int .i64 0, .int .i64 0, .string { data := #[] }] 23 (0, 0)) := (hb1.block _ (by simp)).trans cells_new
  have c0 := cell_of_heap (i := 0) bn rfl
  have c1 := cell_of_heap (i := 1) bn rfl
  have c2 := cell_of_heap (i := 2) bn rfl
  have c3 := cell_of_heap (i := 3) bn rfl
  have z0 := frozen_of_heap (i := 0) bn
  have z1 := frozen_of_heap (i := 1) bn
  have z2 := frozen_of_heap (i := 2) bn
  have z3 := frozen_of_heap (i := 3) bn
  have HB : Hid (Below w.heap.size w w1) := HX.out.trans (hb1.mono (by simp))
  clear bn hb1 hse HX
  go_wp2
  refine bodyPost_ret (v := told 1 0) (by simp [results, Tryz.results24, go_sem, c0, c1, c2, c3]) rfl ⟨rfl, ?_⟩
  exact (((HB.out.setCell (Nat.le_refl _) _).setCell (Nat.le_refl _) _).setCell (Nat.le_refl _) _).setCell (Nat.le_refl _) _
end Go.Proofs.YtihmgoahobbdkaaGreatDoor
