/-
  THE PROGRAM's Parse, AS IT IS TOLD: scaler.Parse, sentinel, plain.Of, plain.Parse, WALKED.
-/
import Derived.Test.YtaghcjpoihkpjaaGreatDoorJ11
import Derived.LaidEql
import Derived.Test.YtaghcjpoihkpjaaGreatDoorJ1
import Derived.Test.YtaghcjpoihkpjaaGreatDoorChecked
import Derived.PinnedBridge
import Derived.LaidSub
import Derived.Lay
import Derived.LaidMore
import Derived.MakeChecks
import Derived.Stop.Joined
import Derived.ProofKit
import Derived.Carry
namespace Go.Proofs.YtaghcjpoihkpjaaGreatDoor
open Go.RowKit Go.Lib

/-- A policy that was read. -/
def CPol (lo : Nat) (w : World) (t : Tree) (p : Addr) : Prop :=
  ∃ pb a, p = ⟨pb, 0, none⟩ ∧ lo ≤ pb ∧ w.heap[pb]? = some (.cells #[.pointer (some a)] 83 (0, 0)) ∧ CTree lo w t a
theorem CPol.below {lo : Nat} {w w' : World} {t : Tree} {p : Addr} (h : CPol lo w t p) (hb : Below w.heap.size w w') : CPol lo w' t p := by
  obtain ⟨pb, a, h1, h2, h3, h4⟩ := h
  exact ⟨pb, a, h1, h2, (hb.block _ (heap_lt h3)).trans h3, h4.below hb⟩
set_option maxRecDepth 1000000 in
set_option maxHeartbeats 1000000 in
theorem code_Parse (s : ByteArray) (w : World) (hT : Tabs w) (A : Addr) (hv : w.cell? ⟨4, 0, none⟩ = some (.iface 349 (.pointer (some A)))) :
    Calls Tryz.prog 15 #[.string s] w fun e w' => Below w.heap.size w w' ∧ CRead s (.iface 349 (.pointer (some A))) (CPol w.heap.size) w' e := by
  have hr := code_Read s w hT _ hv
  clear hT
  go_enter Tryz.func15, Tryz.ntmps15
  go_wp2_with fail
  refine hr.mono ?_
  rintro e w1 ⟨hb, hc⟩
  have HB : Hid (Below w.heap.size w w1) := hb
  have hsz := hb.size
  clear hr hb
  rcases hc with ⟨h1, rfl⟩ | ⟨h1, ⟨J, b, h2, rfl, h3⟩ | ⟨t, J, a, h2, h3, rfl, h4⟩⟩
  · go_wp2
    go_ret2
    exact ⟨HB.out, .inl ⟨h1, rfl⟩⟩
  · have H2 : Hid _ := h2
    have H3 : Hid (BadAt s w1 b J) := h3
    clear h2 h3
    go_wp2
    go_ret2
    exact ⟨HB.out, .inr ⟨h1, .inl ⟨J, b, H2.out, rfl, H3.out⟩⟩⟩
  · have H2 : Hid _ := h2
    have H4 : Hid (CTree w.heap.size w1 t a) := h4
    clear h2 h4
    go_wp2
    go_ret2
    exact ⟨HB.out.alloc hsz _, .inr ⟨h1, .inr ⟨t, J, _, H2.out, h3, rfl, _, a, rfl, hsz, heap_alloc_new _ _, H4.out.below ((Below.refl _ _).alloc (Nat.le_refl _) _)⟩⟩⟩

/-- The sentinels, each where it lies. -/
structure Sents (A : Nat → Addr) (w : World) : Prop where
  g0 : w.cell? ⟨4, 0, none⟩ = some (.iface 349 (.pointer (some (A 0))))
  g1 : w.cell? ⟨0, 0, none⟩ = some (.iface 349 (.pointer (some (A 1))))
  g2 : w.cell? ⟨1, 0, none⟩ = some (.iface 349 (.pointer (some (A 2))))
  g3 : w.cell? ⟨2, 0, none⟩ = some (.iface 349 (.pointer (some (A 3))))
  g4 : w.cell? ⟨3, 0, none⟩ = some (.iface 349 (.pointer (some (A 4))))
  g5 : w.cell? ⟨5, 0, none⟩ = some (.iface 349 (.pointer (some (A 5))))
  g6 : w.cell? ⟨6, 0, none⟩ = some (.iface 349 (.pointer (some (A 6))))
  g7 : w.cell? ⟨7, 0, none⟩ = some (.iface 349 (.pointer (some (A 7))))
theorem Sents.below {A : Nat → Addr} {w w' : World} (h : Sents A w) (hb : Below w.heap.size w w') : Sents A w' :=
  ⟨cell_below hb h.g0, cell_below hb h.g1, cell_below hb h.g2, cell_below hb h.g3, cell_below hb h.g4, cell_below hb h.g5, cell_below hb h.g6, cell_below hb h.g7⟩

theorem Tryz.isComp : (Tryz.prog.info? 349).map (·.comparable) = some true := by kernel_rfl
theorem Tryz.isSize : (Tryz.prog.info? 368).map (·.size) = some 1 := by kernel_rfl
set_option maxRecDepth 1000000 in
set_option maxHeartbeats 1000000 in
theorem code_sentinel {A : Nat → Addr} {w : World} (h : Sents A w) :
    Calls Tryz.prog 38 #[.iface 349 (.pointer (some (A 0)))] w fun e w' => e = .returned (.int .i64 1) ∧ Below w.heap.size w w' := by
  obtain ⟨g0, g1, g2, g3, g4, g5, g6, g7⟩ := h
  obtain ⟨ti, hi, hcmp⟩ := Option.map_eq_some_iff.1 Tryz.isComp
  obtain ⟨tj, hj, hjs⟩ := Option.map_eq_some_iff.1 Tryz.isSize
  have heq := fun W => run_eql_iface_ptr_same (P := Tryz.prog) W (A 0) Tryz.underlying50 Tryz.underlying349 hi hcmp hj
  clear hi hcmp hj hjs
  go_enter Tryz.func38, Tryz.ntmps38
  go_wp2_with fail
  obtain ⟨X, hX⟩ : ∃ X, X = w.alloc (.cells #[.nilIface, .iface 349 (.pointer (some (A 0))), .nilIface, .nilIface, .iface 349 (.pointer (some (A 1))), .iface 349 (.pointer (some (A 2))), .iface 349 (.pointer (some (A 3))), .iface 349 (.pointer (some (A 4))), .iface 349 (.pointer (some (A 5))), .iface 349 (.pointer (some (A 6))), .nilIface, .nilIface, .iface 349 (.pointer (some (A 7)))] 50) := ⟨_, rfl⟩
  rw [← hX]
  have x0 : X.cell? ⟨w.heap.size, 0, none⟩ = some .nilIface := by rw [hX]; go_simp
  have x1 : X.cell? ⟨w.heap.size, 1, none⟩ = some (.iface 349 (.pointer (some (A 0)))) := by rw [hX]; go_simp
  have HX : Hid (Below w.heap.size w X) := by rw [hX]; exact (Below.refl _ _).alloc (Nat.le_refl _) _
  clear hX g0 g1 g2 g3 g4 g5 g6 g7
  refine wp_loop_rounds 2 ?_
  rw [rounds_succ]
  go_wp2_with fail
  rw [rounds_succ]
  go_wp2
  go_ret
  exact ⟨rfl, HX.out⟩

/-- What plain.Of gives: a Told. -/
abbrev told (e at_ : Int) : Value := .agg #[.int .i64 e, .int .i64 at_, .int .i64 0, .string { data := #[] }]
theorem Tryz.assertS (v : Value) (xT : TypeId) (w : World) : (Instr.typeAssert (.iface 103 v) xT 103 true).run Tryz.prog w = .ok (.tuple #[v, .bool true]) w := by kernel_rfl
theorem Tryz.assertE1 (v : Value) (xT : TypeId) (w : World) : (Instr.typeAssert (.iface 349 v) xT 103 true).run Tryz.prog w = .ok (.tuple #[.pointer none, .bool false]) w := by kernel_rfl
theorem Tryz.assertE2 (v : Value) (xT : TypeId) (w : World) : (Instr.typeAssert (.iface 349 v) xT 108 true).run Tryz.prog w = .ok (.tuple #[.pointer none, .bool false]) w := by kernel_rfl
theorem Tryz.assertE3 (v : Value) (xT : TypeId) (w : World) : (Instr.typeAssert (.iface 349 v) xT 111 true).run Tryz.prog w = .ok (.tuple #[.pointer none, .bool false]) w := by kernel_rfl

set_option maxRecDepth 1000000 in
set_option maxHeartbeats 1000000 in
theorem of_nil (w : World) : Calls Tryz.prog 21 #[.nilIface] w fun e w' => e = .returned (told 0 0) ∧ Below w.heap.size w w' := by
  have HX : Hid (Below w.heap.size w (w.alloc (.cells #[.int .i64 0, .int .i64 0, .int .i64 0, .string { data := #[] }] 24))) := (Below.refl _ _).alloc (Nat.le_refl _) _
  go_enter Tryz.func21, Tryz.ntmps21
  go_wp2
  refine bodyPost_ret (v := told 0 0) (by simp [results, Tryz.results21, go_sem]) rfl ⟨rfl, ?_⟩
  exact (Below.refl _ _).alloc (Nat.le_refl _) _

set_option maxRecDepth 1000000 in
set_option maxHeartbeats 1000000 in
theorem of_syntax {b : Nat} {n : Int} (w : World) (h : w.heap[b]? = some (.cells #[.int .i64 n] 107 (0, 0))) : Calls Tryz.prog 21 #[.iface 103 (.pointer (some ⟨b, 0, none⟩))] w fun e w' => e = .returned (told 2 n) ∧ Below w.heap.size w w' := by
  have c0 := cell_of_heap (i := 0) h rfl
  have lb := heap_lt h
  have ts := Tryz.assertS
  have HX : Hid (Below w.heap.size w (w.alloc (.cells #[.int .i64 0, .int .i64 0, .int .i64 0, .string { data := #[] }] 24))) := (Below.refl _ _).alloc (Nat.le_refl _) _
  clear h
  go_enter Tryz.func21, Tryz.ntmps21
  go_wp2
  refine bodyPost_ret (v := told 2 n) (by simp [results, Tryz.results21, go_sem]) rfl ⟨rfl, ?_⟩
  exact (Below.refl _ _).alloc (Nat.le_refl _) _

set_option maxRecDepth 1000000 in
set_option maxHeartbeats 1000000 in
theorem of_long {A : Nat → Addr} {w : World} (h : Sents A w) : Calls Tryz.prog 21 #[.iface 349 (.pointer (some (A 0)))] w fun e w' => e = .returned (told 1 0) ∧ Below w.heap.size w w' := by
  have t1 := Tryz.assertE1
  have t2 := Tryz.assertE2
  have t3 := Tryz.assertE3
  have hx : Below w.heap.size w (w.alloc (.cells #[.int .i64 0, .int .i64 0, .int .i64 0, .string { data := #[] }] 24)) := (Below.refl _ _).alloc (Nat.le_refl _) _
  have hse := code_sentinel (h.below hx)
  have HX : Hid (Below w.heap.size w (w.alloc (.cells #[.int .i64 0, .int .i64 0, .int .i64 0, .string { data := #[] }] 24))) := hx
  clear h hx
  go_enter Tryz.func21, Tryz.ntmps21
  go_wp2_with fail
  refine hse.mono ?_
  rintro e w1 ⟨rfl, hb1⟩
  have bn : w1.heap[w.heap.size]? = some (.cells #[.int .i64 0, .int .i64 0, .int .i64 0, .string { data := #[] }] 24 (0, 0)) := (hb1.block _ (by simp)).trans cells_new
  have c0 := cell_of_heap (i := 0) bn rfl
  have c1 := cell_of_heap (i := 1) bn rfl
  have c2 := cell_of_heap (i := 2) bn rfl
  have c3 := cell_of_heap (i := 3) bn rfl
  have z0 := frozen_of_heap (i := 0) bn
  have z1 := frozen_of_heap (i := 1) bn
  have z2 := frozen_of_heap (i := 2) bn
  have z3 := frozen_of_heap (i := 3) bn
  have HB : Hid (Below w.heap.size w w1) := HX.out.trans (hb1.mono (by simp))
  clear bn hb1 hse HX
  go_wp2
  refine bodyPost_ret (v := told 1 0) (by simp [results, Tryz.results21, go_sem, c0, c1, c2, c3]) rfl ⟨rfl, ?_⟩
  exact (((HB.out.setCell (Nat.le_refl _) _).setCell (Nat.le_refl _) _).setCell (Nat.le_refl _) _).setCell (Nat.le_refl _) _
end Go.Proofs.YtaghcjpoihkpjaaGreatDoor
namespace Go.Proofs.YtaghcjpoihkpjaaGreatDoor
open Go.RowKit Go.Lib Go.Shelf

theorem Tryz.row_err (u : TypeId) (h : Tryz.prog.typeName? 3 u = some "*errors.errorString") : u = 349 :=
  typeName_ptr_named (nm := "errors.errorString") (by rw [show "*" ++ "errors.errorString" = "*errors.errorString" by decide]; kernel_rfl) (by kernel_rfl) (by decide) u (by rw [show "*" ++ "errors.errorString" = "*errors.errorString" by decide]; exact h)
theorem Tryz.cellsE : Tryz.prog.cellsOf 368 = 1 := by kernel_rfl
theorem Tryz.cellsS : Tryz.prog.cellsOf 9 = 1 := by kernel_rfl
def sentNames : List String := ["scaler/api.ErrLong", "scaler/api.ErrCode", "scaler/api.ErrLimits", "scaler/api.ErrStale", "scaler/api.ErrMetric", "scaler/api.ErrDivide", "scaler/api.ErrNoData", "scaler/api.ErrCooling"]
theorem Tryz.gE0 : Tryz.prog.globalNamed "scaler/api.ErrLong" = some 4 := by kernel_rfl
theorem Tryz.gE1 : Tryz.prog.globalNamed "scaler/api.ErrCode" = some 0 := by kernel_rfl
theorem Tryz.gE2 : Tryz.prog.globalNamed "scaler/api.ErrLimits" = some 1 := by kernel_rfl
theorem Tryz.gE3 : Tryz.prog.globalNamed "scaler/api.ErrStale" = some 2 := by kernel_rfl
theorem Tryz.gE4 : Tryz.prog.globalNamed "scaler/api.ErrMetric" = some 3 := by kernel_rfl
theorem Tryz.gE5 : Tryz.prog.globalNamed "scaler/api.ErrDivide" = some 5 := by kernel_rfl
theorem Tryz.gE6 : Tryz.prog.globalNamed "scaler/api.ErrNoData" = some 6 := by kernel_rfl
theorem Tryz.gE7 : Tryz.prog.globalNamed "scaler/api.ErrCooling" = some 7 := by kernel_rfl
theorem Tryz.u8x : U8Extra Tryz.prog Tryz.lays260_ren := ⟨by kernel_rfl, by kernel_rfl, by kernel_rfl, by kernel_rfl, by kernel_rfl, by kernel_rfl, by kernel_rfl⟩
theorem Tryz.rx : RExtra Tryz.prog Tryz.lays261_ren := ⟨by kernel_rfl, by kernel_rfl, by kernel_rfl, by kernel_rfl, by kernel_rfl, by kernel_rfl, by kernel_rfl, by kernel_rfl⟩
theorem Tryz.own : ownKnob Tryz.prog.godebug = none := by kernel_rfl
theorem laidMet_layVars_all {P : Program} {w0 : World} {laid : List (String × DataW Unit)} (hf : w0.layFits P laid [] = true) (hi : w0.layIfaces P laid (w0.layVars P laid) = true) : laidMet P laid (w0.layVars P laid) := by
  have e1 : (laid.filter fun x => (laid.map (·.1)).contains x.1) = laid := List.filter_eq_self.2 fun x hx => List.contains_iff_mem.2 (List.mem_map.2 ⟨x, hx, rfl⟩)
  have e2 : (laid.filter fun x => !(laid.map (·.1)).contains x.1) = [] := List.filter_eq_nil_iff.2 fun x hx => by rw [List.contains_iff_mem.2 (List.mem_map.2 ⟨x, hx, rfl⟩)]; simp
  exact laidMet_layVars (w0 := w0) (laid.map (·.1)) [] (by rw [e1]) (by rw [e1]; exact hf) (by rw [e1]; exact hi) (by rw [e2]; exact LaidIn.none)
/-- A world in which the handle lies. -/
noncomputable def witH (os : Os) : World := (World.holding Tryz.prog os ⟨#[], #[], []⟩).setCell ⟨8, 0, none⟩ (.iface 265 (.agg #[typeHandle Tryz.prog 50]))
theorem perm_ne {p : List Nat} {i j : Nat} (h : ∀ i, i < 8 → ∀ j, j < 8 → i ≠ j → p.getD i 0 ≠ p.getD j 0) (hi : i < 8) (hj : j < 8) (hne : i ≠ j) : p.getD i 0 ≠ p.getD j 0 := h i hi j hj hne
end Go.Proofs.YtaghcjpoihkpjaaGreatDoor
