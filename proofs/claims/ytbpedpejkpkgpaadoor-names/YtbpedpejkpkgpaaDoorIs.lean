/-
  errors.Is of a *api.HoldError of a sentinel, at that sentinel: true.
-/
import Derived.Test.YtbpedpejkpkgpaaDoorErrs
namespace Go.Proofs.YtbpedpejkpkgpaaDoor
open Go.RowKit Go.Extern.Stop Go.Stop Go.Extern

/-! errors.Is -/
theorem Tryd.methodComparable (v : Value) (w : World) : (Go.method 218 68 v "Comparable").run Tryd.prog w = .ok (47, v) w := by kernel_rfl
noncomputable def cmpEntry : Array Value → Sem Value := ReflectliteType.method fun t => do Rtype.noPackHeld "Comparable" t; pure (.bool (← typeInfo t).comparable)
theorem Tryd.isComparable (w : World) : (cmpEntry #[.agg #[.pointer (some ⟨9, 82, none⟩)]]).run Tryd.prog w = .ok (.bool true) w := by kernel_rfl
theorem Tryd.isComp : (Tryd.prog.info? 82).map (·.comparable) = some true := by kernel_rfl
theorem Tryd.isSize : (Tryd.prog.info? 106).map (·.size) = some 1 := by kernel_rfl
theorem Tryd.noIsH (v : Value) (xT : TypeId) (w : World) : (Instr.typeAssert (.iface 31 v) xT 79 true).run Tryd.prog w = .ok (.tuple #[.nilIface, .bool false]) w := run_typeAssert_lacksB Tryd.underlying79 (by kernel_rfl) (by kernel_rfl) v xT w

set_option maxHeartbeats 4000000 in
theorem is_wrap_same (pb po : Nat) (b : Addr) (w : World) (h1 : w.cell? ⟨pb, po + 1, none⟩ = some (.iface 82 (.pointer (some b)))) :
    Calls Tryd.prog 9 #[.iface 31 (.pointer (some ⟨pb, po, none⟩)), .iface 82 (.pointer (some b))] w fun e w' => e = .returned (.bool true) ∧ w' = w := by
  obtain ⟨i, hi, hcmp⟩ := Option.map_eq_some_iff.1 Tryd.isComp
  obtain ⟨j, hj, hjs⟩ := Option.map_eq_some_iff.1 Tryd.isSize
  have h14 := @run_callFunc_extern Tryd.prog 14 _ ReflectliteType.typeOf Tryd.func14 (by kernel_rfl) (by kernel_rfl) (by kernel_rfl) (by kernel_rfl)
  have h47 := @run_callFunc_extern Tryd.prog 47 _ cmpEntry Tryd.func47 (by kernel_rfl) (by kernel_rfl) (by kernel_rfl) (by kernel_rfl)
  have tT := Tryd.typeOf82
  have cT := Tryd.isComparable
  have mR := Tryd.methodComparable
  have nW := Tryd.noIsH
  have uW := Tryd.hasUnwrapH
  have mU := Tryd.methodUnwrap
  have heq := run_eql_iface_ptr_same (P := Tryd.prog) w b Tryd.underlying28 Tryd.underlying82 hi hcmp hj
  have hty := run_eql_iface_types (P := Tryd.prog) 31 82 (.pointer (some ⟨pb, po, none⟩)) (.pointer (some b)) Tryd.underlying28 (by decide) w
  go_enter Tryd.func9, Tryd.ntmps9
  go_wp2
  refine wp_loop_rounds 2 ?_
  rw [rounds_succ]
  go_wp2
  rw [rounds_succ]
  go_wp2
  go_ret
  exact ⟨rfl, rfl⟩
end Go.Proofs.YtbpedpejkpkgpaaDoor
