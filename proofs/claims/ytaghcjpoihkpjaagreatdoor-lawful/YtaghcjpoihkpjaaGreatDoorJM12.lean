/-
  errors.As AT A HoldError, WALKED.
-/
import Derived.Test.YtaghcjpoihkpjaaGreatDoorJM11
namespace Go.Proofs.YtaghcjpoihkpjaaGreatDoor
open Go.RowKit Go.Extern.Stop Go.Stop Go.Extern

set_option maxRecDepth 1000000 in
set_option maxHeartbeats 4000000 in
theorem as_miss_PE (hb ho : Nat) (a t : Addr) (w : World) (hg : w.cell? ⟨8, 0, none⟩ = some (.iface 265 (.agg #[.pointer (some ⟨18, 50, none⟩)]))) (hE : w.cell? ⟨hb, ho + 1, none⟩ = some (.iface 349 (.pointer (some a)))) :
    Calls Tryz.prog 49 #[.iface 111 (.pointer (some ⟨hb, ho, none⟩)), .iface 152 (.pointer (some t))] w fun ev w' => ev = .returned (.bool false) ∧ w' = (((w.alloc (.cells #[.pointer (some t)] 152)).alloc (.cells #[.pointer (some ⟨18, 152, none⟩), .pointer (some ⟨w.heap.size, 0, none⟩), .int .u64 150] 207)).alloc (.cells #[.pointer (some ⟨18, 152, none⟩), .pointer (some ⟨w.heap.size, 0, none⟩), .int .u64 150] 207)) := by
  have x1 := @run_callFunc_extern Tryz.prog 81 _ (fun args => ReflectliteValue.unpack (args.getD 0 (.tuple #[]))) Tryz.func81 (by kernel_rfl) (by kernel_rfl) (by kernel_rfl) (by kernel_rfl)
  have x2 := @run_callFunc_extern Tryz.prog 82 _ (ReflectliteValue.methodAny (ReflectliteValue.valueError "reflectlite.Value.Type" 0) (fun t _ _ _ => ReflectliteType.toType t)) Tryz.func82 (by kernel_rfl) (by kernel_rfl) (by kernel_rfl) (by kernel_rfl)
  have x3 := @run_callFunc_extern Tryz.prog 83 _ (ReflectliteValue.method (ReflectliteValue.valueError "reflectlite.Value.IsNil" 0) ReflectliteValue.isNil) Tryz.func83 (by kernel_rfl) (by kernel_rfl) (by kernel_rfl) (by kernel_rfl)
  have x4 := @run_callFunc_extern Tryz.prog 220 _ (ReflectliteType.abiMethod fun t => do pure (.int .u8 (← Rtype.kind t))) Tryz.func220 (by kernel_rfl) (by kernel_rfl) (by kernel_rfl) (by kernel_rfl)
  have x5 := @run_callFunc_extern Tryz.prog 245 _ (ReflectliteType.method ReflectliteType.elem) Tryz.func245 (by kernel_rfl) (by kernel_rfl) (by kernel_rfl) (by kernel_rfl)
  have x6 := @run_callFunc_extern Tryz.prog 246 _ (ReflectliteType.relation "Implements" ReflectliteType.implements_) Tryz.func246 (by kernel_rfl) (by kernel_rfl) (by kernel_rfl) (by kernel_rfl)
  have x7 := @run_callFunc_extern Tryz.prog 85 _ ReflectliteType.typeOf Tryz.func85 (by kernel_rfl) (by kernel_rfl) (by kernel_rfl) (by kernel_rfl)
  have x8 := @run_callFunc_extern Tryz.prog 243 _ (ReflectliteType.relation "AssignableTo" ReflectliteType.assignableTo) Tryz.func243 (by kernel_rfl) (by kernel_rfl) (by kernel_rfl) (by kernel_rfl)
  have tH := Tryz.typeOfH
  have tE := Tryz.typeOfE
  have mA := Tryz.methodAssignableTo
  have aH := Tryz.assignHP
  have aE := Tryz.assignEP
  have f6 := Tryz.valueOf2P
  have f7 := Tryz.type2P
  have mK := Tryz.methodKind
  have mE := Tryz.methodElem
  have mI := Tryz.methodImplements
  have mU := Tryz.methodUnwrap
  have k1 := Tryz.kind2P
  have k2 := Tryz.kind1P
  have e27 := Tryz.elem2P
  have i25 := Tryz.implementsP
  have nH := Tryz.noAsH
  have uH := Tryz.hasUnwrapH
  have n8 := Tryz.isNil2P ⟨w.heap.size, 0, none⟩ t ((w.alloc (.cells #[.pointer (some t)] 152)).alloc (.cells #[.pointer (some ⟨18, 152, none⟩), .pointer (some ⟨w.heap.size, 0, none⟩), .int .u64 150] 207)) (by simp)
  have hlt : 8 < w.heap.size := World.block_lt_of_cell? _ _ hg
  have hbl : hb < w.heap.size := World.block_lt_of_cell? _ _ hE
  have hg2 : ((w.alloc (.cells #[.pointer (some t)] 152)).alloc (.cells #[.pointer (some ⟨18, 152, none⟩), .pointer (some ⟨w.heap.size, 0, none⟩), .int .u64 150] 207)).cell? ⟨8, 0, none⟩ = some (.iface 265 (.agg #[.pointer (some ⟨18, 50, none⟩)])) := by
    rw [World.cell?_alloc_lt _ _ ⟨8, 0, none⟩ (by simp; omega), World.cell?_alloc_lt _ _ ⟨8, 0, none⟩ hlt]; exact hg
  have nE := Tryz.noAsE
  have uE := Tryz.noUnwrapE
  have vE := Tryz.noUnwrapsE
  have hE3 : (((w.alloc (.cells #[.pointer (some t)] 152)).alloc (.cells #[.pointer (some ⟨18, 152, none⟩), .pointer (some ⟨w.heap.size, 0, none⟩), .int .u64 150] 207)).alloc (.cells #[.pointer (some ⟨18, 152, none⟩), .pointer (some ⟨w.heap.size, 0, none⟩), .int .u64 150] 207)).cell? ⟨hb, ho + 1, none⟩ = some (.iface 349 (.pointer (some a))) := by
    rw [World.cell?_alloc_lt _ _ ⟨hb, ho + 1, none⟩ (by simp; omega), World.cell?_alloc_lt _ _ ⟨hb, ho + 1, none⟩ (by simp; omega), World.cell?_alloc_lt _ _ ⟨hb, ho + 1, none⟩ hbl]; exact hE
  go_enter Tryz.func49, Tryz.ntmps49
  go_wp2
  refine wp_loop_rounds 2 ?_
  rw [rounds_succ]
  go_wp2
  rw [rounds_succ]
  go_wp2
  go_ret
  exact ⟨rfl, rfl⟩
end Go.Proofs.YtaghcjpoihkpjaaGreatDoor
namespace Go.Proofs.YtaghcjpoihkpjaaGreatDoor
open Go.RowKit Go.Extern.Stop Go.Stop Go.Extern

set_option maxRecDepth 1000000 in
set_option maxHeartbeats 4000000 in
theorem as_miss_PO (hb ho : Nat) (a t : Addr) (w : World) (hg : w.cell? ⟨8, 0, none⟩ = some (.iface 265 (.agg #[.pointer (some ⟨18, 50, none⟩)]))) (hE : w.cell? ⟨hb, ho + 1, none⟩ = some (.iface 150 (.pointer (some a)))) :
    Calls Tryz.prog 49 #[.iface 111 (.pointer (some ⟨hb, ho, none⟩)), .iface 152 (.pointer (some t))] w fun ev w' => ev = .returned (.bool false) ∧ w' = (((w.alloc (.cells #[.pointer (some t)] 152)).alloc (.cells #[.pointer (some ⟨18, 152, none⟩), .pointer (some ⟨w.heap.size, 0, none⟩), .int .u64 150] 207)).alloc (.cells #[.pointer (some ⟨18, 152, none⟩), .pointer (some ⟨w.heap.size, 0, none⟩), .int .u64 150] 207)) := by
  have x1 := @run_callFunc_extern Tryz.prog 81 _ (fun args => ReflectliteValue.unpack (args.getD 0 (.tuple #[]))) Tryz.func81 (by kernel_rfl) (by kernel_rfl) (by kernel_rfl) (by kernel_rfl)
  have x2 := @run_callFunc_extern Tryz.prog 82 _ (ReflectliteValue.methodAny (ReflectliteValue.valueError "reflectlite.Value.Type" 0) (fun t _ _ _ => ReflectliteType.toType t)) Tryz.func82 (by kernel_rfl) (by kernel_rfl) (by kernel_rfl) (by kernel_rfl)
  have x3 := @run_callFunc_extern Tryz.prog 83 _ (ReflectliteValue.method (ReflectliteValue.valueError "reflectlite.Value.IsNil" 0) ReflectliteValue.isNil) Tryz.func83 (by kernel_rfl) (by kernel_rfl) (by kernel_rfl) (by kernel_rfl)
  have x4 := @run_callFunc_extern Tryz.prog 220 _ (ReflectliteType.abiMethod fun t => do pure (.int .u8 (← Rtype.kind t))) Tryz.func220 (by kernel_rfl) (by kernel_rfl) (by kernel_rfl) (by kernel_rfl)
  have x5 := @run_callFunc_extern Tryz.prog 245 _ (ReflectliteType.method ReflectliteType.elem) Tryz.func245 (by kernel_rfl) (by kernel_rfl) (by kernel_rfl) (by kernel_rfl)
  have x6 := @run_callFunc_extern Tryz.prog 246 _ (ReflectliteType.relation "Implements" ReflectliteType.implements_) Tryz.func246 (by kernel_rfl) (by kernel_rfl) (by kernel_rfl) (by kernel_rfl)
  have x7 := @run_callFunc_extern Tryz.prog 85 _ ReflectliteType.typeOf Tryz.func85 (by kernel_rfl) (by kernel_rfl) (by kernel_rfl) (by kernel_rfl)
  have x8 := @run_callFunc_extern Tryz.prog 243 _ (ReflectliteType.relation "AssignableTo" ReflectliteType.assignableTo) Tryz.func243 (by kernel_rfl) (by kernel_rfl) (by kernel_rfl) (by kernel_rfl)
  have tH := Tryz.typeOfH
  have tE := Tryz.typeOfO
  have mA := Tryz.methodAssignableTo
  have aH := Tryz.assignHP
  have aE := Tryz.assignOP
  have f6 := Tryz.valueOf2P
  have f7 := Tryz.type2P
  have mK := Tryz.methodKind
  have mE := Tryz.methodElem
  have mI := Tryz.methodImplements
  have mU := Tryz.methodUnwrap
  have k1 := Tryz.kind2P
  have k2 := Tryz.kind1P
  have e27 := Tryz.elem2P
  have i25 := Tryz.implementsP
  have nH := Tryz.noAsH
  have uH := Tryz.hasUnwrapH
  have n8 := Tryz.isNil2P ⟨w.heap.size, 0, none⟩ t ((w.alloc (.cells #[.pointer (some t)] 152)).alloc (.cells #[.pointer (some ⟨18, 152, none⟩), .pointer (some ⟨w.heap.size, 0, none⟩), .int .u64 150] 207)) (by simp)
  have hlt : 8 < w.heap.size := World.block_lt_of_cell? _ _ hg
  have hbl : hb < w.heap.size := World.block_lt_of_cell? _ _ hE
  have hg2 : ((w.alloc (.cells #[.pointer (some t)] 152)).alloc (.cells #[.pointer (some ⟨18, 152, none⟩), .pointer (some ⟨w.heap.size, 0, none⟩), .int .u64 150] 207)).cell? ⟨8, 0, none⟩ = some (.iface 265 (.agg #[.pointer (some ⟨18, 50, none⟩)])) := by
    rw [World.cell?_alloc_lt _ _ ⟨8, 0, none⟩ (by simp; omega), World.cell?_alloc_lt _ _ ⟨8, 0, none⟩ hlt]; exact hg
  have nE := Tryz.noAsO
  have uE := Tryz.noUnwrapO
  have vE := Tryz.noUnwrapsO
  have hE3 : (((w.alloc (.cells #[.pointer (some t)] 152)).alloc (.cells #[.pointer (some ⟨18, 152, none⟩), .pointer (some ⟨w.heap.size, 0, none⟩), .int .u64 150] 207)).alloc (.cells #[.pointer (some ⟨18, 152, none⟩), .pointer (some ⟨w.heap.size, 0, none⟩), .int .u64 150] 207)).cell? ⟨hb, ho + 1, none⟩ = some (.iface 150 (.pointer (some a))) := by
    rw [World.cell?_alloc_lt _ _ ⟨hb, ho + 1, none⟩ (by simp; omega), World.cell?_alloc_lt _ _ ⟨hb, ho + 1, none⟩ (by simp; omega), World.cell?_alloc_lt _ _ ⟨hb, ho + 1, none⟩ hbl]; exact hE
  go_enter Tryz.func49, Tryz.ntmps49
  go_wp2
  refine wp_loop_rounds 2 ?_
  rw [rounds_succ]
  go_wp2
  rw [rounds_succ]
  go_wp2
  go_ret
  exact ⟨rfl, rfl⟩
end Go.Proofs.YtaghcjpoihkpjaaGreatDoor
namespace Go.Proofs.YtaghcjpoihkpjaaGreatDoor
open Go.RowKit Go.Extern.Stop Go.Stop Go.Extern

set_option maxRecDepth 1000000 in
set_option maxHeartbeats 4000000 in
theorem as_miss_OE (hb ho : Nat) (a t : Addr) (w : World) (hg : w.cell? ⟨8, 0, none⟩ = some (.iface 265 (.agg #[.pointer (some ⟨18, 50, none⟩)]))) (hE : w.cell? ⟨hb, ho + 1, none⟩ = some (.iface 349 (.pointer (some a)))) :
    Calls Tryz.prog 49 #[.iface 111 (.pointer (some ⟨hb, ho, none⟩)), .iface 156 (.pointer (some t))] w fun ev w' => ev = .returned (.bool false) ∧ w' = (((w.alloc (.cells #[.pointer (some t)] 156)).alloc (.cells #[.pointer (some ⟨18, 156, none⟩), .pointer (some ⟨w.heap.size, 0, none⟩), .int .u64 150] 207)).alloc (.cells #[.pointer (some ⟨18, 156, none⟩), .pointer (some ⟨w.heap.size, 0, none⟩), .int .u64 150] 207)) := by
  have x1 := @run_callFunc_extern Tryz.prog 81 _ (fun args => ReflectliteValue.unpack (args.getD 0 (.tuple #[]))) Tryz.func81 (by kernel_rfl) (by kernel_rfl) (by kernel_rfl) (by kernel_rfl)
  have x2 := @run_callFunc_extern Tryz.prog 82 _ (ReflectliteValue.methodAny (ReflectliteValue.valueError "reflectlite.Value.Type" 0) (fun t _ _ _ => ReflectliteType.toType t)) Tryz.func82 (by kernel_rfl) (by kernel_rfl) (by kernel_rfl) (by kernel_rfl)
  have x3 := @run_callFunc_extern Tryz.prog 83 _ (ReflectliteValue.method (ReflectliteValue.valueError "reflectlite.Value.IsNil" 0) ReflectliteValue.isNil) Tryz.func83 (by kernel_rfl) (by kernel_rfl) (by kernel_rfl) (by kernel_rfl)
  have x4 := @run_callFunc_extern Tryz.prog 220 _ (ReflectliteType.abiMethod fun t => do pure (.int .u8 (← Rtype.kind t))) Tryz.func220 (by kernel_rfl) (by kernel_rfl) (by kernel_rfl) (by kernel_rfl)
  have x5 := @run_callFunc_extern Tryz.prog 245 _ (ReflectliteType.method ReflectliteType.elem) Tryz.func245 (by kernel_rfl) (by kernel_rfl) (by kernel_rfl) (by kernel_rfl)
  have x6 := @run_callFunc_extern Tryz.prog 246 _ (ReflectliteType.relation "Implements" ReflectliteType.implements_) Tryz.func246 (by kernel_rfl) (by kernel_rfl) (by kernel_rfl) (by kernel_rfl)
  have x7 := @run_callFunc_extern Tryz.prog 85 _ ReflectliteType.typeOf Tryz.func85 (by kernel_rfl) (by kernel_rfl) (by kernel_rfl) (by kernel_rfl)
  have x8 := @run_callFunc_extern Tryz.prog 243 _ (ReflectliteType.relation "AssignableTo" ReflectliteType.assignableTo) Tryz.func243 (by kernel_rfl) (by kernel_rfl) (by kernel_rfl) (by kernel_rfl)
  have tH := Tryz.typeOfH
  have tE := Tryz.typeOfE
  have mA := Tryz.methodAssignableTo
  have aH := Tryz.assignHO
  have aE := Tryz.assignEO
  have f6 := Tryz.valueOf2O
  have f7 := Tryz.type2O
  have mK := Tryz.methodKind
  have mE := Tryz.methodElem
  have mI := Tryz.methodImplements
  have mU := Tryz.methodUnwrap
  have k1 := Tryz.kind2O
  have k2 := Tryz.kind1O
  have e27 := Tryz.elem2O
  have i25 := Tryz.implementsO
  have nH := Tryz.noAsH
  have uH := Tryz.hasUnwrapH
  have n8 := Tryz.isNil2O ⟨w.heap.size, 0, none⟩ t ((w.alloc (.cells #[.pointer (some t)] 156)).alloc (.cells #[.pointer (some ⟨18, 156, none⟩), .pointer (some ⟨w.heap.size, 0, none⟩), .int .u64 150] 207)) (by simp)
  have hlt : 8 < w.heap.size := World.block_lt_of_cell? _ _ hg
  have hbl : hb < w.heap.size := World.block_lt_of_cell? _ _ hE
  have hg2 : ((w.alloc (.cells #[.pointer (some t)] 156)).alloc (.cells #[.pointer (some ⟨18, 156, none⟩), .pointer (some ⟨w.heap.size, 0, none⟩), .int .u64 150] 207)).cell? ⟨8, 0, none⟩ = some (.iface 265 (.agg #[.pointer (some ⟨18, 50, none⟩)])) := by
    rw [World.cell?_alloc_lt _ _ ⟨8, 0, none⟩ (by simp; omega), World.cell?_alloc_lt _ _ ⟨8, 0, none⟩ hlt]; exact hg
  have nE := Tryz.noAsE
  have uE := Tryz.noUnwrapE
  have vE := Tryz.noUnwrapsE
  have hE3 : (((w.alloc (.cells #[.pointer (some t)] 156)).alloc (.cells #[.pointer (some ⟨18, 156, none⟩), .pointer (some ⟨w.heap.size, 0, none⟩), .int .u64 150] 207)).alloc (.cells #[.pointer (some ⟨18, 156, none⟩), .pointer (some ⟨w.heap.size, 0, none⟩), .int .u64 150] 207)).cell? ⟨hb, ho + 1, none⟩ = some (.iface 349 (.pointer (some a))) := by
    rw [World.cell?_alloc_lt _ _ ⟨hb, ho + 1, none⟩ (by simp; omega), World.cell?_alloc_lt _ _ ⟨hb, ho + 1, none⟩ (by simp; omega), World.cell?_alloc_lt _ _ ⟨hb, ho + 1, none⟩ hbl]; exact hE
  go_enter Tryz.func49, Tryz.ntmps49
  go_wp2
  refine wp_loop_rounds 2 ?_
  rw [rounds_succ]
  go_wp2
  rw [rounds_succ]
  go_wp2
  go_ret
  exact ⟨rfl, rfl⟩
end Go.Proofs.YtaghcjpoihkpjaaGreatDoor
namespace Go.Proofs.YtaghcjpoihkpjaaGreatDoor
open Go.RowKit Go.Extern.Stop Go.Stop Go.Extern

set_option maxRecDepth 1000000 in
set_option maxHeartbeats 4000000 in
theorem as_hit_P (hb ho : Nat) (a t : Addr) (old : Value) (w : World) (hg : w.cell? ⟨8, 0, none⟩ = some (.iface 265 (.agg #[.pointer (some ⟨18, 50, none⟩)]))) (hE : w.cell? ⟨hb, ho + 1, none⟩ = some (.iface 149 (.pointer (some a)))) (ht0 : w.cell? t = some old) (hf0 : w.frozen? t = false) :
    Calls Tryz.prog 49 #[.iface 111 (.pointer (some ⟨hb, ho, none⟩)), .iface 152 (.pointer (some t))] w fun ev w' => ev = .returned (.bool true) ∧ w' = ((((w.alloc (.cells #[.pointer (some t)] 152)).alloc (.cells #[.pointer (some ⟨18, 152, none⟩), .pointer (some ⟨w.heap.size, 0, none⟩), .int .u64 150] 207)).alloc (.cells #[.pointer (some ⟨18, 152, none⟩), .pointer (some ⟨w.heap.size, 0, none⟩), .int .u64 150] 207)).alloc (.cells #[.pointer (some a)] 149)).setCell t (.pointer (some a)) := by
  have x1 := @run_callFunc_extern Tryz.prog 81 _ (fun args => ReflectliteValue.unpack (args.getD 0 (.tuple #[]))) Tryz.func81 (by kernel_rfl) (by kernel_rfl) (by kernel_rfl) (by kernel_rfl)
  have x2 := @run_callFunc_extern Tryz.prog 82 _ (ReflectliteValue.methodAny (ReflectliteValue.valueError "reflectlite.Value.Type" 0) (fun t _ _ _ => ReflectliteType.toType t)) Tryz.func82 (by kernel_rfl) (by kernel_rfl) (by kernel_rfl) (by kernel_rfl)
  have x3 := @run_callFunc_extern Tryz.prog 83 _ (ReflectliteValue.method (ReflectliteValue.valueError "reflectlite.Value.IsNil" 0) ReflectliteValue.isNil) Tryz.func83 (by kernel_rfl) (by kernel_rfl) (by kernel_rfl) (by kernel_rfl)
  have x4 := @run_callFunc_extern Tryz.prog 220 _ (ReflectliteType.abiMethod fun t => do pure (.int .u8 (← Rtype.kind t))) Tryz.func220 (by kernel_rfl) (by kernel_rfl) (by kernel_rfl) (by kernel_rfl)
  have x5 := @run_callFunc_extern Tryz.prog 245 _ (ReflectliteType.method ReflectliteType.elem) Tryz.func245 (by kernel_rfl) (by kernel_rfl) (by kernel_rfl) (by kernel_rfl)
  have x6 := @run_callFunc_extern Tryz.prog 246 _ (ReflectliteType.relation "Implements" ReflectliteType.implements_) Tryz.func246 (by kernel_rfl) (by kernel_rfl) (by kernel_rfl) (by kernel_rfl)
  have x7 := @run_callFunc_extern Tryz.prog 85 _ ReflectliteType.typeOf Tryz.func85 (by kernel_rfl) (by kernel_rfl) (by kernel_rfl) (by kernel_rfl)
  have x8 := @run_callFunc_extern Tryz.prog 243 _ (ReflectliteType.relation "AssignableTo" ReflectliteType.assignableTo) Tryz.func243 (by kernel_rfl) (by kernel_rfl) (by kernel_rfl) (by kernel_rfl)
  have tH := Tryz.typeOfH
  have tE := Tryz.typeOfP
  have mA := Tryz.methodAssignableTo
  have aH := Tryz.assignHP
  have aE := Tryz.assignPP
  have f6 := Tryz.valueOf2P
  have f7 := Tryz.type2P
  have mK := Tryz.methodKind
  have mE := Tryz.methodElem
  have mI := Tryz.methodImplements
  have mU := Tryz.methodUnwrap
  have k1 := Tryz.kind2P
  have k2 := Tryz.kind1P
  have e27 := Tryz.elem2P
  have i25 := Tryz.implementsP
  have nH := Tryz.noAsH
  have uH := Tryz.hasUnwrapH
  have n8 := Tryz.isNil2P ⟨w.heap.size, 0, none⟩ t ((w.alloc (.cells #[.pointer (some t)] 152)).alloc (.cells #[.pointer (some ⟨18, 152, none⟩), .pointer (some ⟨w.heap.size, 0, none⟩), .int .u64 150] 207)) (by simp)
  have hlt : 8 < w.heap.size := World.block_lt_of_cell? _ _ hg
  have hbl : hb < w.heap.size := World.block_lt_of_cell? _ _ hE
  have hg2 : ((w.alloc (.cells #[.pointer (some t)] 152)).alloc (.cells #[.pointer (some ⟨18, 152, none⟩), .pointer (some ⟨w.heap.size, 0, none⟩), .int .u64 150] 207)).cell? ⟨8, 0, none⟩ = some (.iface 265 (.agg #[.pointer (some ⟨18, 50, none⟩)])) := by
    rw [World.cell?_alloc_lt _ _ ⟨8, 0, none⟩ (by simp; omega), World.cell?_alloc_lt _ _ ⟨8, 0, none⟩ hlt]; exact hg
  have x9 := @run_callFunc_extern Tryz.prog 133 _ (ReflectliteValue.method (ReflectliteValue.valueError "reflectlite.Value.Elem" 0) ReflectliteValue.elem) Tryz.func133 (by kernel_rfl) (by kernel_rfl) (by kernel_rfl) (by kernel_rfl)
  have x10 := @run_callFunc_extern Tryz.prog 134 _ ReflectliteValue.set Tryz.func134 (by kernel_rfl) (by kernel_rfl) (by kernel_rfl) (by kernel_rfl)
  have v25 := Tryz.valueOf1P
  have htl : t.block < w.heap.size := World.block_lt_of_cell? _ _ ht0
  have hE3 : (((w.alloc (.cells #[.pointer (some t)] 152)).alloc (.cells #[.pointer (some ⟨18, 152, none⟩), .pointer (some ⟨w.heap.size, 0, none⟩), .int .u64 150] 207)).alloc (.cells #[.pointer (some ⟨18, 152, none⟩), .pointer (some ⟨w.heap.size, 0, none⟩), .int .u64 150] 207)).cell? ⟨hb, ho + 1, none⟩ = some (.iface 149 (.pointer (some a))) := by
    rw [World.cell?_alloc_lt _ _ ⟨hb, ho + 1, none⟩ (by simp; omega), World.cell?_alloc_lt _ _ ⟨hb, ho + 1, none⟩ (by simp; omega), World.cell?_alloc_lt _ _ ⟨hb, ho + 1, none⟩ hbl]; exact hE
  have el := Tryz.elemV2P ⟨w.heap.size, 0, none⟩ t (((w.alloc (.cells #[.pointer (some t)] 152)).alloc (.cells #[.pointer (some ⟨18, 152, none⟩), .pointer (some ⟨w.heap.size, 0, none⟩), .int .u64 150] 207)).alloc (.cells #[.pointer (some ⟨18, 152, none⟩), .pointer (some ⟨w.heap.size, 0, none⟩), .int .u64 150] 207)) (by rw [World.cell?_alloc_lt _ _ ⟨w.heap.size, 0, none⟩ (by simp; omega)]; simp)
  have st := Tryz.set1P t ⟨w.heap.size + 1 + 1 + 1, 0, none⟩ a old ((((w.alloc (.cells #[.pointer (some t)] 152)).alloc (.cells #[.pointer (some ⟨18, 152, none⟩), .pointer (some ⟨w.heap.size, 0, none⟩), .int .u64 150] 207)).alloc (.cells #[.pointer (some ⟨18, 152, none⟩), .pointer (some ⟨w.heap.size, 0, none⟩), .int .u64 150] 207)).alloc (.cells #[.pointer (some a)] 149))
    (by rw [World.cell?_alloc_at _ _ _ _ (by simp)]; rfl)
    (by rw [World.cell?_alloc_lt _ _ t (by simp; omega), World.cell?_alloc_lt _ _ t (by simp; omega), World.cell?_alloc_lt _ _ t (by simp; omega), World.cell?_alloc_lt _ _ t htl]; exact ht0)
    (by rw [World.frozen?_alloc_old _ _ t (by simp; omega), World.frozen?_alloc_old _ _ t (by simp; omega), World.frozen?_alloc_old _ _ t (by simp; omega), World.frozen?_alloc_old _ _ t (Nat.ne_of_lt htl)]; exact hf0)
  go_enter Tryz.func49, Tryz.ntmps49
  go_wp2
  refine wp_loop_rounds 2 ?_
  rw [rounds_succ]
  go_wp2
  rw [rounds_succ]
  go_wp2
  go_ret
  exact ⟨rfl, rfl⟩
end Go.Proofs.YtaghcjpoihkpjaaGreatDoor
