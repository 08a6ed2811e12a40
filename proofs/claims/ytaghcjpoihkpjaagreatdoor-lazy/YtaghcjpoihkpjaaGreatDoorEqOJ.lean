/-
  TWO OUTCOMES HELD AGAINST EACH OTHER.
-/
import Derived.Test.YtaghcjpoihkpjaaGreatDoorProg
import Derived.Test.YtaghcjpoihkpjaaGreatDoorJ1
import Derived.Laws.StructEq
namespace Go.Proofs.YtaghcjpoihkpjaaGreatDoor
open Go.RowKit

theorem Tryz.outcomeS : Tryz.prog.underlying 26 = some (.struct (Tryz.prog.fieldsOf 26)) := by kernel_rfl
theorem Tryz.outcomeP : Tryz.prog.stoodInHeld 26 = false := by kernel_rfl
theorem Tryz.outcomeG : Tryz.prog.eqGuardType Tryz.prog.depth 26 = false := by kernel_rfl
theorem Tryz.toldS : Tryz.prog.underlying 24 = some (.struct (Tryz.prog.fieldsOf 24)) := by kernel_rfl
theorem Tryz.toldP : Tryz.prog.stoodInHeld 24 = false := by kernel_rfl
theorem Tryz.toldSame (e p m : Int) (w : World) : (Op.equalIn 9999 24 (.agg #[.int .i64 e, .int .i64 p, .int .i64 m, .string { data := #[] }]) (.agg #[.int .i64 e, .int .i64 p, .int .i64 m, .string { data := #[] }])).run Tryz.prog w = .ok true w := by
  have ui := Tryz.underlying3
  have u64 := Tryz.underlying2
  have us := Tryz.underlying9
  rw [show (9999 : Nat) = 9998 + 1 from rfl, run_equalIn_agg w 9998 _ _ _ Tryz.toldS Tryz.toldP]
  simp only [Program.fieldsOf, Tryz.underlying24]
  go_simp
theorem Tryz.outSame (po pr br : Bool) (n e p m : Int) (w : World) :
    (Op.equalIn 10000 26 (.agg #[.bool po, .bool pr, .bool br, .int .i64 n, .int .i64 e, .int .i64 p, .int .i64 m, .string { data := #[] }]) (.agg #[.bool po, .bool pr, .bool br, .int .i64 n, .int .i64 e, .int .i64 p, .int .i64 m, .string { data := #[] }])).run Tryz.prog w = .ok true w := by
  have ub := Tryz.underlying4
  have u64 := Tryz.underlying2
  have ht := Tryz.toldSame e p m
  rw [show (10000 : Nat) = 9999 + 1 from rfl, run_equalIn_agg w 9999 _ _ _ Tryz.outcomeS Tryz.outcomeP]
  simp only [Program.fieldsOf, Tryz.underlying26]
  go_simp
end Go.Proofs.YtaghcjpoihkpjaaGreatDoor
