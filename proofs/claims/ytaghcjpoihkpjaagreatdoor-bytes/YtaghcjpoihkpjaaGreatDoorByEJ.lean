/-
  scalerkeep.held AND scalerkeep.safe, WALKED.
-/
import Derived.Test.YtaghcjpoihkpjaaGreatDoorByDJ
import Derived.Laws.StructEq
import Derived.Deep.QuietTactic
import Derived.BigQuiet
namespace Go.Proofs.YtaghcjpoihkpjaaGreatDoor
open Go.RowKit Go.Lib

set_option maxRecDepth 1000000 in
theorem keep_held (r : Res) (w : World) : Calls Tryz.prog 23 #[toldV r] w fun e w' => e = .returned (.bool true) ∧ Below w.heap.size w w' := by
  have h : resE r = 0 ∨ resE r = 8 ∨ resE r = 9 ∨ resE r = 10 ∨ resE r = 11 := by
    cases r with
    | val n => exact .inl rfl
    | held p y => cases y <;> simp [resE]
  unfold toldV
  generalize resE r = e at *
  generalize resP r = p at *
  generalize resM r = m at *
  rcases h with rfl | rfl | rfl | rfl | rfl
  all_goals
    go_enter Tryz.func23, Tryz.ntmps23
    go_wp2
    go_ret
    exact ⟨rfl, (Below.refl _ _).alloc (Nat.le_refl _) _⟩
theorem Tryz.toldFields : (Tryz.prog.fieldsOf 24).toList.map (fun f => (f.name, f.type, f.offset)) = [("Err", 3, 0), ("At", 3, 1), ("With", 2, 2), ("Name", 9, 3)] := by kernel_rfl
theorem Tryz.toldStruct : Tryz.prog.underlying 24 = some (.struct (Tryz.prog.fieldsOf 24)) := by kernel_rfl
theorem Tryz.toldHeld : Tryz.prog.stoodInHeld 24 = false := by kernel_rfl
theorem eql_told (a b c : Int) (s : ByteArray) (w : World) : (binOp .eql 24 (.agg #[.int .i64 a, .int .i64 b, .int .i64 c, .string s]) (.agg #[.int .i64 a, .int .i64 b, .int .i64 c, .string s])).run Tryz.prog w = .ok (.bool true) w := by
  rw [run_eql_struct, run_equalIn_struct w 9999 _ _ _ Tryz.toldStruct Tryz.toldHeld]
  have hf := Tryz.toldFields
  generalize (Tryz.prog.fieldsOf 24).toList = fs at *
  rcases fs with _ | ⟨f0, _ | ⟨f1, _ | ⟨f2, _ | ⟨f3, _ | ⟨f4, fs⟩⟩⟩⟩⟩
  all_goals simp only [List.map_cons, List.map_nil, List.cons.injEq, Prod.mk.injEq, and_true, reduceCtorEq, and_false] at hf
  obtain ⟨⟨n0, t0, o0⟩, ⟨n1, t1, o1⟩, ⟨n2, t2, o2⟩, ⟨n3, t3, o3⟩⟩ := hf
  have u1 := Tryz.underlying3
  have u2 := Tryz.underlying2
  have u3 := Tryz.underlying9
  simp [Op.eqFields, n0, n1, n2, n3, t0, t1, t2, t3, o0, o1, o2, o3, part, isAgg, underlying, u1, u2, u3, run_equalIn_int w 9998 _ _ _ _ _ u1, run_equalIn_int w 9998 _ _ _ _ _ u2, run_equalIn_string w 9998 _ _ _ u3, Result.andThen]
set_option maxRecDepth 1000000 in
set_option maxHeartbeats 2000000 in
theorem keep_safe {A : Nat → Addr} {w : World} (hT : TabsR w) (hA : SentsX A w) {v : Value} {l : List UInt8} (hl : RestAt w.heap.size w v l) :
    Calls Tryz.prog 10 #[v] w fun e w' => e = .returned (.bool true) ∧ Below w.heap.size w w' := by
  have hs := plain_Safe hT hA hl
  obtain ⟨ao, cp, rfl, -⟩ := hl.slice
  clear hT hA hl
  go_enter Tryz.func10, Tryz.ntmps10
  go_wp2_with fail
  refine hs.mono ?_
  rintro e w1 ⟨hb1, hr⟩
  have B1 : Hid (Below w.heap.size w w1) := hb1
  clear hs hb1
  rcases hr with ⟨g, r, rn, rfl, hg⟩ | ⟨f, p, s, hf, rfl⟩
  · have lg := heap_lt hg
    have HG : Hid _ := hg
    unfold row3 at hg
    have d0 := cell_of_heap (i := 0) (v := .int .i64 (resE r)) hg rfl
    have d1 := cell_of_heap (i := 1) (v := .int .i64 (resP r)) hg rfl
    have d2 := cell_of_heap (i := 2) (v := .int .i64 (resM r)) hg rfl
    have d3 := cell_of_heap (i := 3) (v := .string { data := #[] }) hg rfl
    have d4 := cell_of_heap (i := 4) (v := .int .i64 (resE r)) hg rfl
    have d5 := cell_of_heap (i := 5) (v := .int .i64 (resP r)) hg rfl
    have d6 := cell_of_heap (i := 6) (v := .int .i64 (resM r)) hg rfl
    have d7 := cell_of_heap (i := 7) (v := .string { data := #[] }) hg rfl
    have d8 := cell_of_heap (i := 8) (v := .int .i64 (resE rn)) hg rfl
    have d9 := cell_of_heap (i := 9) (v := .int .i64 (resP rn)) hg rfl
    have d10 := cell_of_heap (i := 10) (v := .int .i64 (resM rn)) hg rfl
    have d11 := cell_of_heap (i := 11) (v := .string { data := #[] }) hg rfl
    clear hg
    have hh := fun W => keep_held r W
    unfold toldV at hh
    go_wp2_with fail
    refine (hh _).mono ?_
    rintro e w2 ⟨rfl, hb2⟩
    have K2 : Hid (Below w1.heap.size w1 w2) := ((Below.refl _ _).alloc (Nat.le_refl _) _).trans (hb2.mono (by simp))
    have hg := (K2.out.block _ lg).trans HG.out
    have lg2 := heap_lt hg
    unfold row3 at hg
    clear d0 d1 d2 d3 d4 d5 d6 d7 d8 d9 d10 d11 hb2
    have d0 := cell_of_heap (i := 0) (v := .int .i64 (resE r)) hg rfl
    have d1 := cell_of_heap (i := 1) (v := .int .i64 (resP r)) hg rfl
    have d2 := cell_of_heap (i := 2) (v := .int .i64 (resM r)) hg rfl
    have d3 := cell_of_heap (i := 3) (v := .string { data := #[] }) hg rfl
    have d4 := cell_of_heap (i := 4) (v := .int .i64 (resE r)) hg rfl
    have d5 := cell_of_heap (i := 5) (v := .int .i64 (resP r)) hg rfl
    have d6 := cell_of_heap (i := 6) (v := .int .i64 (resM r)) hg rfl
    have d7 := cell_of_heap (i := 7) (v := .string { data := #[] }) hg rfl
    have d8 := cell_of_heap (i := 8) (v := .int .i64 (resE rn)) hg rfl
    have d9 := cell_of_heap (i := 9) (v := .int .i64 (resP rn)) hg rfl
    have d10 := cell_of_heap (i := 10) (v := .int .i64 (resM rn)) hg rfl
    have d11 := cell_of_heap (i := 11) (v := .string { data := #[] }) hg rfl
    clear hg
    go_wp2_with fail
    refine (hh _).mono ?_
    rintro e w3 ⟨rfl, hb3⟩
    have K3 : Hid (Below w1.heap.size w1 w3) := K2.out.trans (hb3.mono K2.out.size)
    have hg := (K3.out.block _ lg).trans HG.out
    have lg3 := heap_lt hg
    unfold row3 at hg
    clear d0 d1 d2 d3 d4 d5 d6 d7 d8 d9 d10 d11 hb3
    have d0 := cell_of_heap (i := 0) (v := .int .i64 (resE r)) hg rfl
    have d1 := cell_of_heap (i := 1) (v := .int .i64 (resP r)) hg rfl
    have d2 := cell_of_heap (i := 2) (v := .int .i64 (resM r)) hg rfl
    have d3 := cell_of_heap (i := 3) (v := .string { data := #[] }) hg rfl
    have d4 := cell_of_heap (i := 4) (v := .int .i64 (resE r)) hg rfl
    have d5 := cell_of_heap (i := 5) (v := .int .i64 (resP r)) hg rfl
    have d6 := cell_of_heap (i := 6) (v := .int .i64 (resM r)) hg rfl
    have d7 := cell_of_heap (i := 7) (v := .string { data := #[] }) hg rfl
    have d8 := cell_of_heap (i := 8) (v := .int .i64 (resE rn)) hg rfl
    have d9 := cell_of_heap (i := 9) (v := .int .i64 (resP rn)) hg rfl
    have d10 := cell_of_heap (i := 10) (v := .int .i64 (resM rn)) hg rfl
    have d11 := cell_of_heap (i := 11) (v := .string { data := #[] }) hg rfl
    clear hg
    have hh2 := fun W => keep_held rn W
    unfold toldV at hh2
    go_wp2_with fail
    refine (hh2 _).mono ?_
    rintro e w4 ⟨rfl, hb4⟩
    have K4 : Hid (Below w1.heap.size w1 w4) := K3.out.trans (hb4.mono K3.out.size)
    have hg := (K4.out.block _ lg).trans HG.out
    have lg4 := heap_lt hg
    unfold row3 at hg
    clear d0 d1 d2 d3 d4 d5 d6 d7 d8 d9 d10 d11 hb4 hh hh2
    have d0 := cell_of_heap (i := 0) (v := .int .i64 (resE r)) hg rfl
    have d1 := cell_of_heap (i := 1) (v := .int .i64 (resP r)) hg rfl
    have d2 := cell_of_heap (i := 2) (v := .int .i64 (resM r)) hg rfl
    have d3 := cell_of_heap (i := 3) (v := .string { data := #[] }) hg rfl
    have d4 := cell_of_heap (i := 4) (v := .int .i64 (resE r)) hg rfl
    have d5 := cell_of_heap (i := 5) (v := .int .i64 (resP r)) hg rfl
    have d6 := cell_of_heap (i := 6) (v := .int .i64 (resM r)) hg rfl
    have d7 := cell_of_heap (i := 7) (v := .string { data := #[] }) hg rfl
    have d8 := cell_of_heap (i := 8) (v := .int .i64 (resE rn)) hg rfl
    have d9 := cell_of_heap (i := 9) (v := .int .i64 (resP rn)) hg rfl
    have d10 := cell_of_heap (i := 10) (v := .int .i64 (resM rn)) hg rfl
    have d11 := cell_of_heap (i := 11) (v := .string { data := #[] }) hg rfl
    clear hg
    have hst := eql_told (resE r) (resP r) (resM r) { data := #[] }
    have K5 : Hid (∀ n, Below w.heap.size w (w4.drewN n)) := fun n => by
      have b := B1.out.trans (K4.out.mono B1.out.size)
      exact ⟨b.os, b.tape, b.output, b.size, b.block⟩
    go_wp2_with fail
    go_quiet (fail)
    go_wp2
    go_ret
    exact ⟨rfl, K5.out _⟩
  · rcases hf with rfl | rfl
    all_goals
      unfold told4
      go_wp2
      go_ret
      exact ⟨rfl, B1.out.alloc B1.out.size _⟩
end Go.Proofs.YtaghcjpoihkpjaaGreatDoor
