import Derived.Test.YtbokdbaagacnlaaGreatDoorProg
import Derived.WalkKit
import Derived.LaidEql
import Derived.Stop.Asserts
import Derived.RowKitTokens
namespace Go.Proofs.YtbokdbaagacnlaaGreatDoor
open Go.RowKit Go.Extern.Stop Go.Stop Go.Extern
theorem rlm (z:Sem Value)(f:TypeId→Addr→Nat→Nat→Sem Value)(v:Value):
  ReflectliteValue.method z f #[v]=(do match ←ReflectliteValue.parts v with | none=>z | some (t,a,fl)=>f t a fl (fl % 32)):=rfl
theorem rls (v x:Value):ReflectliteValue.set #[v,x]=(do
  let (some (dst,a,fl),some (src,b,_)):=(←ReflectliteValue.parts v,←ReflectliteValue.parts x)
   | unsupported (.noEntry "extern/(internal/reflectlite.Value).Set.zeroValue")
  if fl / ReflectliteValue.flagAddr % 2 == 0 then unsupported (.noEntry "extern/(internal/reflectlite.Value).Set.unaddressable")
  let val ←loadVar src b
  if ←Rtype.directlyAssignable dst src then storeVar dst a val
  else if ←Rtype.implements dst src then
   if (←Rtype.kind src) == 20 then
    match val with
    | .nilIface=>unsupported (.noEntry "extern/reflectlite: a nil value of one interface type handed on as a value of another")
    | _=>storeVar dst a val
   else storeVar dst a (.iface src val)
  else panicString ("reflectlite.Set: value of type " ++ (←Rtype.spelt src) ++ " is not assignable to type " ++ (←Rtype.spelt dst))
  pure (.tuple #[])):=rfl
theorem Tryz.methodKind (h:Value)(w:World):(Go.method 548 315 (.agg #[h]) "Kind").run Tryz.prog w=.ok (269,h) w:=by kernel_rfl
theorem Tryz.methodElem (h:Value)(w:World):(Go.method 548 315 (.agg #[h]) "Elem").run Tryz.prog w=.ok (294,.agg #[h]) w:=by kernel_rfl
theorem Tryz.methodImplements (h:Value)(w:World):(Go.method 548 315 (.agg #[h]) "Implements").run Tryz.prog w=.ok (295,.agg #[h]) w:=by kernel_rfl
theorem Tryz.methodAssignableTo (h:Value)(w:World):(Go.method 548 315 (.agg #[h]) "AssignableTo").run Tryz.prog w=.ok (292,.agg #[h]) w:=by kernel_rfl
theorem Tryz.methodComparable (v:Value)(w:World):(Go.method 548 315 v "Comparable").run Tryz.prog w=.ok (293,v) w:=by kernel_rfl
theorem Tryz.methodUnwrap (v:Value)(w:World):(Go.method 548 159 v "Unwrap").run Tryz.prog w=.ok (277,v) w:=by kernel_rfl
theorem Tryz.hasUnwrapH (v:Value)(xT:TypeId)(w:World):(Instr.typeAssert (.iface 159 v) xT 322 true).run Tryz.prog w=.ok (.tuple #[.iface 159 v,.bool true]) w:=run_typeAssert_hasB Tryz.underlying322 (by kernel_rfl) v xT w
theorem Tryz.noIsH (v:Value)(xT:TypeId)(w:World):(Instr.typeAssert (.iface 159 v) xT 325 true).run Tryz.prog w=.ok (.tuple #[.nilIface,.bool false]) w:=run_typeAssert_lacksB Tryz.underlying325 (by kernel_rfl) (by kernel_rfl) v xT w
theorem Tryz.noIsE (v:Value)(xT:TypeId)(w:World):(Instr.typeAssert (.iface 416 v) xT 325 true).run Tryz.prog w=.ok (.tuple #[.nilIface,.bool false]) w:=run_typeAssert_lacksB Tryz.underlying325 (by kernel_rfl) (by kernel_rfl) v xT w
theorem Tryz.typeOfH (v:Value)(w:World):(ReflectliteType.typeOf #[.iface 159 v]).run Tryz.prog w=.ok (.iface 315 (.agg #[.pointer (some ⟨18,159,none⟩)])) w:=by kernel_rfl
theorem Tryz.noAsH (v:Value)(xT:TypeId)(w:World):(Instr.typeAssert (.iface 159 v) xT 319 true).run Tryz.prog w=.ok (.tuple #[.nilIface,.bool false]) w:=run_typeAssert_lacksB Tryz.underlying319 (by kernel_rfl) (by kernel_rfl) v xT w
theorem Tryz.typeOfE (v:Value)(w:World):(ReflectliteType.typeOf #[.iface 416 v]).run Tryz.prog w=.ok (.iface 315 (.agg #[.pointer (some ⟨18,416,none⟩)])) w:=by kernel_rfl
theorem Tryz.noAsE (v:Value)(xT:TypeId)(w:World):(Instr.typeAssert (.iface 416 v) xT 319 true).run Tryz.prog w=.ok (.tuple #[.nilIface,.bool false]) w:=run_typeAssert_lacksB Tryz.underlying319 (by kernel_rfl) (by kernel_rfl) v xT w
theorem Tryz.noUnwrapE (v:Value)(xT:TypeId)(w:World):(Instr.typeAssert (.iface 416 v) xT 322 true).run Tryz.prog w=.ok (.tuple #[.nilIface,.bool false]) w:=run_typeAssert_lacksB Tryz.underlying322 (by kernel_rfl) (by kernel_rfl) v xT w
theorem Tryz.noUnwrapsE (v:Value)(xT:TypeId)(w:World):(Instr.typeAssert (.iface 416 v) xT 323 true).run Tryz.prog w=.ok (.tuple #[.nilIface,.bool false]) w:=run_typeAssert_lacksB Tryz.underlying323 (by kernel_rfl) (by kernel_rfl) v xT w
theorem Tryz.typeOfP (v:Value)(w:World):(ReflectliteType.typeOf #[.iface 199 v]).run Tryz.prog w=.ok (.iface 315 (.agg #[.pointer (some ⟨18,199,none⟩)])) w:=by kernel_rfl
theorem Tryz.typeOfO (v:Value)(w:World):(ReflectliteType.typeOf #[.iface 200 v]).run Tryz.prog w=.ok (.iface 315 (.agg #[.pointer (some ⟨18,200,none⟩)])) w:=by kernel_rfl
theorem Tryz.noAsO (v:Value)(xT:TypeId)(w:World):(Instr.typeAssert (.iface 200 v) xT 319 true).run Tryz.prog w=.ok (.tuple #[.nilIface,.bool false]) w:=run_typeAssert_lacksB Tryz.underlying319 (by kernel_rfl) (by kernel_rfl) v xT w
theorem Tryz.noUnwrapO (v:Value)(xT:TypeId)(w:World):(Instr.typeAssert (.iface 200 v) xT 322 true).run Tryz.prog w=.ok (.tuple #[.nilIface,.bool false]) w:=run_typeAssert_lacksB Tryz.underlying322 (by kernel_rfl) (by kernel_rfl) v xT w
theorem Tryz.noUnwrapsO (v:Value)(xT:TypeId)(w:World):(Instr.typeAssert (.iface 200 v) xT 323 true).run Tryz.prog w=.ok (.tuple #[.nilIface,.bool false]) w:=run_typeAssert_lacksB Tryz.underlying323 (by kernel_rfl) (by kernel_rfl) v xT w
theorem Tryz.valueOf2P (t:Addr)(w:World):(ReflectliteValue.unpack (.iface 202 (.pointer (some t)))).run Tryz.prog w
  = .ok (.agg #[.pointer (some ⟨18,202,none⟩),.pointer (some ⟨w.heap.size,0,none⟩),.int .u64 150]) (w.alloc (.cells #[.pointer (some t)] 202)):=by kernel_rfl
theorem Tryz.type2P (a:Addr)(w:World):(ReflectliteValue.methodAny (ReflectliteValue.valueError "reflectlite.Value.Type" 0) (fun t _ _ _=>ReflectliteType.toType t) #[.agg #[.pointer (some ⟨18,202,none⟩),.pointer (some a),.int .u64 150]]).run Tryz.prog w
  = .ok (.iface 315 (.agg #[.pointer (some ⟨18,202,none⟩)])) w:=by kernel_rfl
theorem Tryz.kind2P (w:World):((ReflectliteType.abiMethod fun t=>(fun a:Nat=>Value.int IntKind.u8 (a:Int)) <$> Rtype.kind t) #[.pointer (some ⟨18,202,none⟩)]).run Tryz.prog w=.ok (.int .u8 22) w:=by kernel_rfl
theorem Tryz.kind1P (w:World):((ReflectliteType.abiMethod fun t=>(fun a:Nat=>Value.int IntKind.u8 (a:Int)) <$> Rtype.kind t) #[.pointer (some ⟨18,199,none⟩)]).run Tryz.prog w=.ok (.int .u8 22) w:=by kernel_rfl
theorem Tryz.parts2P (a:Addr)(w:World):(ReflectliteValue.parts (.agg #[.pointer (some ⟨18,202,none⟩),.pointer (some a),.int .u64 150])).run Tryz.prog w=.ok (some (202,a,150)) w:=by kernel_rfl
theorem Tryz.isNil2P (a p:Addr)(W:World)(ha:W.cell? a=some (.pointer (some p))):
  (ReflectliteValue.method (ReflectliteValue.valueError "reflectlite.Value.IsNil" 0) ReflectliteValue.isNil #[.agg #[.pointer (some ⟨18,202,none⟩),.pointer (some a),.int .u64 150]]).run Tryz.prog W=.ok (.bool false) W:=by
 rw[rlm]
 simp only[Sem.run_bind,Tryz.parts2P,Result.andThen]
 simp[ReflectliteValue.isNil,loadVar,isAgg,underlying,Tryz.underlying202,ha,Result.andThen]
theorem Tryz.elem2P (w:World):(ReflectliteType.method ReflectliteType.elem #[.agg #[.pointer (some ⟨18,202,none⟩)]]).run Tryz.prog w=.ok (.iface 315 (.agg #[.pointer (some ⟨18,199,none⟩)])) w:=by kernel_rfl
theorem Tryz.implementsP (w:World):(ReflectliteType.relation "Implements" ReflectliteType.implements_ #[.agg #[.pointer (some ⟨18,199,none⟩)],.iface 315 (.agg #[.pointer (some ⟨18,69,none⟩)])]).run Tryz.prog w=.ok (.bool true) w:=by kernel_rfl
theorem Tryz.valueOf1P (e:Addr)(w:World):(ReflectliteValue.unpack (.iface 199 (.pointer (some e)))).run Tryz.prog w
  = .ok (.agg #[.pointer (some ⟨18,199,none⟩),.pointer (some ⟨w.heap.size,0,none⟩),.int .u64 150]) (w.alloc (.cells #[.pointer (some e)] 199)):=by kernel_rfl
theorem Tryz.elemOf2P (w:World):(Rtype.elem? 202).run Tryz.prog w=.ok (some 199) w:=by kernel_rfl
theorem Tryz.mk1P (p:Addr)(w:World):(ReflectliteValue.mk 199 p ReflectliteValue.flagAddr).run Tryz.prog w=.ok (.agg #[.pointer (some ⟨18,199,none⟩),.pointer (some p),.int .u64 406]) w:=by kernel_rfl
theorem Tryz.elemV2P (a p:Addr)(W:World)(ha:W.cell? a=some (.pointer (some p))):
  (ReflectliteValue.method (ReflectliteValue.valueError "reflectlite.Value.Elem" 0) ReflectliteValue.elem #[.agg #[.pointer (some ⟨18,202,none⟩),.pointer (some a),.int .u64 150]]).run Tryz.prog W
   = .ok (.agg #[.pointer (some ⟨18,199,none⟩),.pointer (some p),.int .u64 406]) W:=by
 rw[rlm]
 simp only[Sem.run_bind,Tryz.parts2P,Result.andThen]
 simp[ReflectliteValue.elem,loadVar,isAgg,underlying,Tryz.underlying202,ha,Result.andThen,Tryz.elemOf2P,Tryz.mk1P]
theorem Tryz.parts1aP (a:Addr)(w:World):(ReflectliteValue.parts (.agg #[.pointer (some ⟨18,199,none⟩),.pointer (some a),.int .u64 406])).run Tryz.prog w=.ok (some (199,a,406)) w:=by kernel_rfl
theorem Tryz.parts1P (a:Addr)(w:World):(ReflectliteValue.parts (.agg #[.pointer (some ⟨18,199,none⟩),.pointer (some a),.int .u64 150])).run Tryz.prog w=.ok (some (199,a,150)) w:=by kernel_rfl
theorem Tryz.direct1P (w:World):(Rtype.directlyAssignable 199 199).run Tryz.prog w=.ok true w:=by kernel_rfl
theorem Tryz.set1P (ta b e:Addr)(old:Value)(W:World)(hb:W.cell? b=some (.pointer (some e)))(ht:W.cell? ta=some old)(hf:W.frozen? ta=false):
  (ReflectliteValue.set #[.agg #[.pointer (some ⟨18,199,none⟩),.pointer (some ta),.int .u64 406],.agg #[.pointer (some ⟨18,199,none⟩),.pointer (some b),.int .u64 150]]).run Tryz.prog W
   = .ok (.tuple #[]) (W.setCell ta (.pointer (some e))):=by
 rw[rls]
 simp only[Sem.run_bind,Tryz.parts1aP,Tryz.parts1P,Result.andThen]
 simp[ReflectliteValue.flagAddr,loadVar,isAgg,underlying,Tryz.underlying199,hb,Result.andThen,Tryz.direct1P,storeVar,Value.cells,storeCells,Addr.add]
 rw[run_store Tryz.prog W ta _ _ (by rfl)]
 simp[ht,hf]
theorem Tryz.assignHP (w:World):(ReflectliteType.relation "AssignableTo" ReflectliteType.assignableTo #[.agg #[.pointer (some ⟨18,159,none⟩)],.iface 315 (.agg #[.pointer (some ⟨18,199,none⟩)])]).run Tryz.prog w=.ok (.bool false) w:=by kernel_rfl
theorem Tryz.assignEP (w:World):(ReflectliteType.relation "AssignableTo" ReflectliteType.assignableTo #[.agg #[.pointer (some ⟨18,416,none⟩)],.iface 315 (.agg #[.pointer (some ⟨18,199,none⟩)])]).run Tryz.prog w=.ok (.bool false) w:=by kernel_rfl
theorem Tryz.assignPP (w:World):(ReflectliteType.relation "AssignableTo" ReflectliteType.assignableTo #[.agg #[.pointer (some ⟨18,199,none⟩)],.iface 315 (.agg #[.pointer (some ⟨18,199,none⟩)])]).run Tryz.prog w=.ok (.bool true) w:=by kernel_rfl
theorem Tryz.assignOP (w:World):(ReflectliteType.relation "AssignableTo" ReflectliteType.assignableTo #[.agg #[.pointer (some ⟨18,200,none⟩)],.iface 315 (.agg #[.pointer (some ⟨18,199,none⟩)])]).run Tryz.prog w=.ok (.bool false) w:=by kernel_rfl
theorem Tryz.valueOf2O (t:Addr)(w:World):(ReflectliteValue.unpack (.iface 206 (.pointer (some t)))).run Tryz.prog w
  = .ok (.agg #[.pointer (some ⟨18,206,none⟩),.pointer (some ⟨w.heap.size,0,none⟩),.int .u64 150]) (w.alloc (.cells #[.pointer (some t)] 206)):=by kernel_rfl
theorem Tryz.type2O (a:Addr)(w:World):(ReflectliteValue.methodAny (ReflectliteValue.valueError "reflectlite.Value.Type" 0) (fun t _ _ _=>ReflectliteType.toType t) #[.agg #[.pointer (some ⟨18,206,none⟩),.pointer (some a),.int .u64 150]]).run Tryz.prog w
  = .ok (.iface 315 (.agg #[.pointer (some ⟨18,206,none⟩)])) w:=by kernel_rfl
theorem Tryz.kind2O (w:World):((ReflectliteType.abiMethod fun t=>(fun a:Nat=>Value.int IntKind.u8 (a:Int)) <$> Rtype.kind t) #[.pointer (some ⟨18,206,none⟩)]).run Tryz.prog w=.ok (.int .u8 22) w:=by kernel_rfl
theorem Tryz.kind1O (w:World):((ReflectliteType.abiMethod fun t=>(fun a:Nat=>Value.int IntKind.u8 (a:Int)) <$> Rtype.kind t) #[.pointer (some ⟨18,200,none⟩)]).run Tryz.prog w=.ok (.int .u8 22) w:=by kernel_rfl
theorem Tryz.parts2O (a:Addr)(w:World):(ReflectliteValue.parts (.agg #[.pointer (some ⟨18,206,none⟩),.pointer (some a),.int .u64 150])).run Tryz.prog w=.ok (some (206,a,150)) w:=by kernel_rfl
theorem Tryz.isNil2O (a p:Addr)(W:World)(ha:W.cell? a=some (.pointer (some p))):
  (ReflectliteValue.method (ReflectliteValue.valueError "reflectlite.Value.IsNil" 0) ReflectliteValue.isNil #[.agg #[.pointer (some ⟨18,206,none⟩),.pointer (some a),.int .u64 150]]).run Tryz.prog W=.ok (.bool false) W:=by
 rw[rlm]
 simp only[Sem.run_bind,Tryz.parts2O,Result.andThen]
 simp[ReflectliteValue.isNil,loadVar,isAgg,underlying,Tryz.underlying206,ha,Result.andThen]
theorem Tryz.elem2O (w:World):(ReflectliteType.method ReflectliteType.elem #[.agg #[.pointer (some ⟨18,206,none⟩)]]).run Tryz.prog w=.ok (.iface 315 (.agg #[.pointer (some ⟨18,200,none⟩)])) w:=by kernel_rfl
theorem Tryz.implementsO (w:World):(ReflectliteType.relation "Implements" ReflectliteType.implements_ #[.agg #[.pointer (some ⟨18,200,none⟩)],.iface 315 (.agg #[.pointer (some ⟨18,69,none⟩)])]).run Tryz.prog w=.ok (.bool true) w:=by kernel_rfl
theorem Tryz.valueOf1O (e:Addr)(w:World):(ReflectliteValue.unpack (.iface 200 (.pointer (some e)))).run Tryz.prog w
  = .ok (.agg #[.pointer (some ⟨18,200,none⟩),.pointer (some ⟨w.heap.size,0,none⟩),.int .u64 150]) (w.alloc (.cells #[.pointer (some e)] 200)):=by kernel_rfl
theorem Tryz.elemOf2O (w:World):(Rtype.elem? 206).run Tryz.prog w=.ok (some 200) w:=by kernel_rfl
theorem Tryz.mk1O (p:Addr)(w:World):(ReflectliteValue.mk 200 p ReflectliteValue.flagAddr).run Tryz.prog w=.ok (.agg #[.pointer (some ⟨18,200,none⟩),.pointer (some p),.int .u64 406]) w:=by kernel_rfl
theorem Tryz.elemV2O (a p:Addr)(W:World)(ha:W.cell? a=some (.pointer (some p))):
  (ReflectliteValue.method (ReflectliteValue.valueError "reflectlite.Value.Elem" 0) ReflectliteValue.elem #[.agg #[.pointer (some ⟨18,206,none⟩),.pointer (some a),.int .u64 150]]).run Tryz.prog W
   = .ok (.agg #[.pointer (some ⟨18,200,none⟩),.pointer (some p),.int .u64 406]) W:=by
 rw[rlm]
 simp only[Sem.run_bind,Tryz.parts2O,Result.andThen]
 simp[ReflectliteValue.elem,loadVar,isAgg,underlying,Tryz.underlying206,ha,Result.andThen,Tryz.elemOf2O,Tryz.mk1O]
theorem Tryz.parts1aO (a:Addr)(w:World):(ReflectliteValue.parts (.agg #[.pointer (some ⟨18,200,none⟩),.pointer (some a),.int .u64 406])).run Tryz.prog w=.ok (some (200,a,406)) w:=by kernel_rfl
theorem Tryz.parts1O (a:Addr)(w:World):(ReflectliteValue.parts (.agg #[.pointer (some ⟨18,200,none⟩),.pointer (some a),.int .u64 150])).run Tryz.prog w=.ok (some (200,a,150)) w:=by kernel_rfl
theorem Tryz.direct1O (w:World):(Rtype.directlyAssignable 200 200).run Tryz.prog w=.ok true w:=by kernel_rfl
theorem Tryz.set1O (ta b e:Addr)(old:Value)(W:World)(hb:W.cell? b=some (.pointer (some e)))(ht:W.cell? ta=some old)(hf:W.frozen? ta=false):
  (ReflectliteValue.set #[.agg #[.pointer (some ⟨18,200,none⟩),.pointer (some ta),.int .u64 406],.agg #[.pointer (some ⟨18,200,none⟩),.pointer (some b),.int .u64 150]]).run Tryz.prog W
   = .ok (.tuple #[]) (W.setCell ta (.pointer (some e))):=by
 rw[rls]
 simp only[Sem.run_bind,Tryz.parts1aO,Tryz.parts1O,Result.andThen]
 simp[ReflectliteValue.flagAddr,loadVar,isAgg,underlying,Tryz.underlying200,hb,Result.andThen,Tryz.direct1O,storeVar,Value.cells,storeCells,Addr.add]
 rw[run_store Tryz.prog W ta _ _ (by rfl)]
 simp[ht,hf]
theorem Tryz.assignHO (w:World):(ReflectliteType.relation "AssignableTo" ReflectliteType.assignableTo #[.agg #[.pointer (some ⟨18,159,none⟩)],.iface 315 (.agg #[.pointer (some ⟨18,200,none⟩)])]).run Tryz.prog w=.ok (.bool false) w:=by kernel_rfl
theorem Tryz.assignEO (w:World):(ReflectliteType.relation "AssignableTo" ReflectliteType.assignableTo #[.agg #[.pointer (some ⟨18,416,none⟩)],.iface 315 (.agg #[.pointer (some ⟨18,200,none⟩)])]).run Tryz.prog w=.ok (.bool false) w:=by kernel_rfl
theorem Tryz.assignOO (w:World):(ReflectliteType.relation "AssignableTo" ReflectliteType.assignableTo #[.agg #[.pointer (some ⟨18,200,none⟩)],.iface 315 (.agg #[.pointer (some ⟨18,200,none⟩)])]).run Tryz.prog w=.ok (.bool true) w:=by kernel_rfl
set_option maxRecDepth 1000000 in
set_option maxHeartbeats 4000000 in
theorem zLT (hb ho:Nat)(a t:Addr)(w:World)(hg:w.cell? ⟨8,0,none⟩=some (.iface 315 (.agg #[.pointer (some ⟨18,69,none⟩)])))(hE:w.cell? ⟨hb,ho+1,none⟩=some (.iface 416 (.pointer (some a)))):
  Calls Tryz.prog 86 #[.iface 159 (.pointer (some ⟨hb,ho,none⟩)),.iface 202 (.pointer (some t))] w fun ev w'=>ev=.returned (.bool false)∧w'=(((w.alloc (.cells #[.pointer (some t)] 202)).alloc (.cells #[.pointer (some ⟨18,202,none⟩),.pointer (some ⟨w.heap.size,0,none⟩),.int .u64 150] 251)).alloc (.cells #[.pointer (some ⟨18,202,none⟩),.pointer (some ⟨w.heap.size,0,none⟩),.int .u64 150] 251)):=by
 have x1:=@run_callFunc_extern Tryz.prog 105 _ (fun args=>ReflectliteValue.unpack (args.getD 0 (.tuple #[]))) Tryz.func105 (by kernel_rfl) (by kernel_rfl) (by kernel_rfl) (by kernel_rfl)
 have x2:=@run_callFunc_extern Tryz.prog 106 _ (ReflectliteValue.methodAny (ReflectliteValue.valueError "reflectlite.Value.Type" 0) (fun t _ _ _=>ReflectliteType.toType t)) Tryz.func106 (by kernel_rfl) (by kernel_rfl) (by kernel_rfl) (by kernel_rfl)
 have x3:=@run_callFunc_extern Tryz.prog 107 _ (ReflectliteValue.method (ReflectliteValue.valueError "reflectlite.Value.IsNil" 0) ReflectliteValue.isNil) Tryz.func107 (by kernel_rfl) (by kernel_rfl) (by kernel_rfl) (by kernel_rfl)
 have x4:=@run_callFunc_extern Tryz.prog 269 _ (ReflectliteType.abiMethod fun t=>do pure (.int .u8 (←Rtype.kind t))) Tryz.func269 (by kernel_rfl) (by kernel_rfl) (by kernel_rfl) (by kernel_rfl)
 have x5:=@run_callFunc_extern Tryz.prog 294 _ (ReflectliteType.method ReflectliteType.elem) Tryz.func294 (by kernel_rfl) (by kernel_rfl) (by kernel_rfl) (by kernel_rfl)
 have x6:=@run_callFunc_extern Tryz.prog 295 _ (ReflectliteType.relation "Implements" ReflectliteType.implements_) Tryz.func295 (by kernel_rfl) (by kernel_rfl) (by kernel_rfl) (by kernel_rfl)
 have x7:=@run_callFunc_extern Tryz.prog 109 _ ReflectliteType.typeOf Tryz.func109 (by kernel_rfl) (by kernel_rfl) (by kernel_rfl) (by kernel_rfl)
 have x8:=@run_callFunc_extern Tryz.prog 292 _ (ReflectliteType.relation "AssignableTo" ReflectliteType.assignableTo) Tryz.func292 (by kernel_rfl) (by kernel_rfl) (by kernel_rfl) (by kernel_rfl)
 have tH:=Tryz.typeOfH
 have tE:=Tryz.typeOfE
 have mA:=Tryz.methodAssignableTo
 have aH:=Tryz.assignHP
 have aE:=Tryz.assignEP
 have f6:=Tryz.valueOf2P
 have f7:=Tryz.type2P
 have mK:=Tryz.methodKind
 have mE:=Tryz.methodElem
 have mI:=Tryz.methodImplements
 have mU:=Tryz.methodUnwrap
 have k1:=Tryz.kind2P
 have k2:=Tryz.kind1P
 have e27:=Tryz.elem2P
 have i25:=Tryz.implementsP
 have nH:=Tryz.noAsH
 have uH:=Tryz.hasUnwrapH
 have n8:=Tryz.isNil2P ⟨w.heap.size,0,none⟩ t ((w.alloc (.cells #[.pointer (some t)] 202)).alloc (.cells #[.pointer (some ⟨18,202,none⟩),.pointer (some ⟨w.heap.size,0,none⟩),.int .u64 150] 251)) (by simp)
 have hlt:8<w.heap.size:=World.block_lt_of_cell? _ _ hg
 have hbl:hb<w.heap.size:=World.block_lt_of_cell? _ _ hE
 have hg2:((w.alloc (.cells #[.pointer (some t)] 202)).alloc (.cells #[.pointer (some ⟨18,202,none⟩),.pointer (some ⟨w.heap.size,0,none⟩),.int .u64 150] 251)).cell? ⟨8,0,none⟩=some (.iface 315 (.agg #[.pointer (some ⟨18,69,none⟩)])):=by
  rw[World.cell?_alloc_lt _ _ ⟨8,0,none⟩ (by simp;omega),World.cell?_alloc_lt _ _ ⟨8,0,none⟩ hlt];exact hg
 have nE:=Tryz.noAsE
 have uE:=Tryz.noUnwrapE
 have vE:=Tryz.noUnwrapsE
 have hE3:(((w.alloc (.cells #[.pointer (some t)] 202)).alloc (.cells #[.pointer (some ⟨18,202,none⟩),.pointer (some ⟨w.heap.size,0,none⟩),.int .u64 150] 251)).alloc (.cells #[.pointer (some ⟨18,202,none⟩),.pointer (some ⟨w.heap.size,0,none⟩),.int .u64 150] 251)).cell? ⟨hb,ho+1,none⟩=some (.iface 416 (.pointer (some a))):=by
  rw[World.cell?_alloc_lt _ _ ⟨hb,ho+1,none⟩ (by simp;omega),World.cell?_alloc_lt _ _ ⟨hb,ho+1,none⟩ (by simp;omega),World.cell?_alloc_lt _ _ ⟨hb,ho+1,none⟩ hbl];exact hE
 go_enter Tryz.func86,Tryz.ntmps86
 go_wp2
 refine wp_loop_rounds 2 ?_
 rw[rounds_succ]
 go_wp2
 rw[rounds_succ]
 go_wp2
 go_ret
 exact⟨rfl,rfl⟩
set_option maxRecDepth 1000000 in
set_option maxHeartbeats 4000000 in
theorem as_miss_PO (hb ho:Nat)(a t:Addr)(w:World)(hg:w.cell? ⟨8,0,none⟩=some (.iface 315 (.agg #[.pointer (some ⟨18,69,none⟩)])))(hE:w.cell? ⟨hb,ho+1,none⟩=some (.iface 200 (.pointer (some a)))):
  Calls Tryz.prog 86 #[.iface 159 (.pointer (some ⟨hb,ho,none⟩)),.iface 202 (.pointer (some t))] w fun ev w'=>ev=.returned (.bool false)∧w'=(((w.alloc (.cells #[.pointer (some t)] 202)).alloc (.cells #[.pointer (some ⟨18,202,none⟩),.pointer (some ⟨w.heap.size,0,none⟩),.int .u64 150] 251)).alloc (.cells #[.pointer (some ⟨18,202,none⟩),.pointer (some ⟨w.heap.size,0,none⟩),.int .u64 150] 251)):=by
 have x1:=@run_callFunc_extern Tryz.prog 105 _ (fun args=>ReflectliteValue.unpack (args.getD 0 (.tuple #[]))) Tryz.func105 (by kernel_rfl) (by kernel_rfl) (by kernel_rfl) (by kernel_rfl)
 have x2:=@run_callFunc_extern Tryz.prog 106 _ (ReflectliteValue.methodAny (ReflectliteValue.valueError "reflectlite.Value.Type" 0) (fun t _ _ _=>ReflectliteType.toType t)) Tryz.func106 (by kernel_rfl) (by kernel_rfl) (by kernel_rfl) (by kernel_rfl)
 have x3:=@run_callFunc_extern Tryz.prog 107 _ (ReflectliteValue.method (ReflectliteValue.valueError "reflectlite.Value.IsNil" 0) ReflectliteValue.isNil) Tryz.func107 (by kernel_rfl) (by kernel_rfl) (by kernel_rfl) (by kernel_rfl)
 have x4:=@run_callFunc_extern Tryz.prog 269 _ (ReflectliteType.abiMethod fun t=>do pure (.int .u8 (←Rtype.kind t))) Tryz.func269 (by kernel_rfl) (by kernel_rfl) (by kernel_rfl) (by kernel_rfl)
 have x5:=@run_callFunc_extern Tryz.prog 294 _ (ReflectliteType.method ReflectliteType.elem) Tryz.func294 (by kernel_rfl) (by kernel_rfl) (by kernel_rfl) (by kernel_rfl)
 have x6:=@run_callFunc_extern Tryz.prog 295 _ (ReflectliteType.relation "Implements" ReflectliteType.implements_) Tryz.func295 (by kernel_rfl) (by kernel_rfl) (by kernel_rfl) (by kernel_rfl)
 have x7:=@run_callFunc_extern Tryz.prog 109 _ ReflectliteType.typeOf Tryz.func109 (by kernel_rfl) (by kernel_rfl) (by kernel_rfl) (by kernel_rfl)
 have x8:=@run_callFunc_extern Tryz.prog 292 _ (ReflectliteType.relation "AssignableTo" ReflectliteType.assignableTo) Tryz.func292 (by kernel_rfl) (by kernel_rfl) (by kernel_rfl) (by kernel_rfl)
 have tH:=Tryz.typeOfH
 have tE:=Tryz.typeOfO
 have mA:=Tryz.methodAssignableTo
 have aH:=Tryz.assignHP
 have aE:=Tryz.assignOP
 have f6:=Tryz.valueOf2P
 have f7:=Tryz.type2P
 have mK:=Tryz.methodKind
 have mE:=Tryz.methodElem
 have mI:=Tryz.methodImplements
 have mU:=Tryz.methodUnwrap
 have k1:=Tryz.kind2P
 have k2:=Tryz.kind1P
 have e27:=Tryz.elem2P
 have i25:=Tryz.implementsP
 have nH:=Tryz.noAsH
 have uH:=Tryz.hasUnwrapH
 have n8:=Tryz.isNil2P ⟨w.heap.size,0,none⟩ t ((w.alloc (.cells #[.pointer (some t)] 202)).alloc (.cells #[.pointer (some ⟨18,202,none⟩),.pointer (some ⟨w.heap.size,0,none⟩),.int .u64 150] 251)) (by simp)
 have hlt:8<w.heap.size:=World.block_lt_of_cell? _ _ hg
 have hbl:hb<w.heap.size:=World.block_lt_of_cell? _ _ hE
 have hg2:((w.alloc (.cells #[.pointer (some t)] 202)).alloc (.cells #[.pointer (some ⟨18,202,none⟩),.pointer (some ⟨w.heap.size,0,none⟩),.int .u64 150] 251)).cell? ⟨8,0,none⟩=some (.iface 315 (.agg #[.pointer (some ⟨18,69,none⟩)])):=by
  rw[World.cell?_alloc_lt _ _ ⟨8,0,none⟩ (by simp;omega),World.cell?_alloc_lt _ _ ⟨8,0,none⟩ hlt];exact hg
 have nE:=Tryz.noAsO
 have uE:=Tryz.noUnwrapO
 have vE:=Tryz.noUnwrapsO
 have hE3:(((w.alloc (.cells #[.pointer (some t)] 202)).alloc (.cells #[.pointer (some ⟨18,202,none⟩),.pointer (some ⟨w.heap.size,0,none⟩),.int .u64 150] 251)).alloc (.cells #[.pointer (some ⟨18,202,none⟩),.pointer (some ⟨w.heap.size,0,none⟩),.int .u64 150] 251)).cell? ⟨hb,ho+1,none⟩=some (.iface 200 (.pointer (some a))):=by
  rw[World.cell?_alloc_lt _ _ ⟨hb,ho+1,none⟩ (by simp;omega),World.cell?_alloc_lt _ _ ⟨hb,ho+1,none⟩ (by simp;omega),World.cell?_alloc_lt _ _ ⟨hb,ho+1,none⟩ hbl];exact hE
 go_enter Tryz.func86,Tryz.ntmps86
 go_wp2
 refine wp_loop_rounds 2 ?_
 rw[rounds_succ]
 go_wp2
 rw[rounds_succ]
 go_wp2
 go_ret
 exact⟨rfl,rfl⟩
set_option maxRecDepth 1000000 in
set_option maxHeartbeats 4000000 in
theorem zLU (hb ho:Nat)(a t:Addr)(w:World)(hg:w.cell? ⟨8,0,none⟩=some (.iface 315 (.agg #[.pointer (some ⟨18,69,none⟩)])))(hE:w.cell? ⟨hb,ho+1,none⟩=some (.iface 416 (.pointer (some a)))):
  Calls Tryz.prog 86 #[.iface 159 (.pointer (some ⟨hb,ho,none⟩)),.iface 206 (.pointer (some t))] w fun ev w'=>ev=.returned (.bool false)∧w'=(((w.alloc (.cells #[.pointer (some t)] 206)).alloc (.cells #[.pointer (some ⟨18,206,none⟩),.pointer (some ⟨w.heap.size,0,none⟩),.int .u64 150] 251)).alloc (.cells #[.pointer (some ⟨18,206,none⟩),.pointer (some ⟨w.heap.size,0,none⟩),.int .u64 150] 251)):=by
 have x1:=@run_callFunc_extern Tryz.prog 105 _ (fun args=>ReflectliteValue.unpack (args.getD 0 (.tuple #[]))) Tryz.func105 (by kernel_rfl) (by kernel_rfl) (by kernel_rfl) (by kernel_rfl)
 have x2:=@run_callFunc_extern Tryz.prog 106 _ (ReflectliteValue.methodAny (ReflectliteValue.valueError "reflectlite.Value.Type" 0) (fun t _ _ _=>ReflectliteType.toType t)) Tryz.func106 (by kernel_rfl) (by kernel_rfl) (by kernel_rfl) (by kernel_rfl)
 have x3:=@run_callFunc_extern Tryz.prog 107 _ (ReflectliteValue.method (ReflectliteValue.valueError "reflectlite.Value.IsNil" 0) ReflectliteValue.isNil) Tryz.func107 (by kernel_rfl) (by kernel_rfl) (by kernel_rfl) (by kernel_rfl)
 have x4:=@run_callFunc_extern Tryz.prog 269 _ (ReflectliteType.abiMethod fun t=>do pure (.int .u8 (←Rtype.kind t))) Tryz.func269 (by kernel_rfl) (by kernel_rfl) (by kernel_rfl) (by kernel_rfl)
 have x5:=@run_callFunc_extern Tryz.prog 294 _ (ReflectliteType.method ReflectliteType.elem) Tryz.func294 (by kernel_rfl) (by kernel_rfl) (by kernel_rfl) (by kernel_rfl)
 have x6:=@run_callFunc_extern Tryz.prog 295 _ (ReflectliteType.relation "Implements" ReflectliteType.implements_) Tryz.func295 (by kernel_rfl) (by kernel_rfl) (by kernel_rfl) (by kernel_rfl)
 have x7:=@run_callFunc_extern Tryz.prog 109 _ ReflectliteType.typeOf Tryz.func109 (by kernel_rfl) (by kernel_rfl) (by kernel_rfl) (by kernel_rfl)
 have x8:=@run_callFunc_extern Tryz.prog 292 _ (ReflectliteType.relation "AssignableTo" ReflectliteType.assignableTo) Tryz.func292 (by kernel_rfl) (by kernel_rfl) (by kernel_rfl) (by kernel_rfl)
 have tH:=Tryz.typeOfH
 have tE:=Tryz.typeOfE
 have mA:=Tryz.methodAssignableTo
 have aH:=Tryz.assignHO
 have aE:=Tryz.assignEO
 have f6:=Tryz.valueOf2O
 have f7:=Tryz.type2O
 have mK:=Tryz.methodKind
 have mE:=Tryz.methodElem
 have mI:=Tryz.methodImplements
 have mU:=Tryz.methodUnwrap
 have k1:=Tryz.kind2O
 have k2:=Tryz.kind1O
 have e27:=Tryz.elem2O
 have i25:=Tryz.implementsO
 have nH:=Tryz.noAsH
 have uH:=Tryz.hasUnwrapH
 have n8:=Tryz.isNil2O ⟨w.heap.size,0,none⟩ t ((w.alloc (.cells #[.pointer (some t)] 206)).alloc (.cells #[.pointer (some ⟨18,206,none⟩),.pointer (some ⟨w.heap.size,0,none⟩),.int .u64 150] 251)) (by simp)
 have hlt:8<w.heap.size:=World.block_lt_of_cell? _ _ hg
 have hbl:hb<w.heap.size:=World.block_lt_of_cell? _ _ hE
 have hg2:((w.alloc (.cells #[.pointer (some t)] 206)).alloc (.cells #[.pointer (some ⟨18,206,none⟩),.pointer (some ⟨w.heap.size,0,none⟩),.int .u64 150] 251)).cell? ⟨8,0,none⟩=some (.iface 315 (.agg #[.pointer (some ⟨18,69,none⟩)])):=by
  rw[World.cell?_alloc_lt _ _ ⟨8,0,none⟩ (by simp;omega),World.cell?_alloc_lt _ _ ⟨8,0,none⟩ hlt];exact hg
 have nE:=Tryz.noAsE
 have uE:=Tryz.noUnwrapE
 have vE:=Tryz.noUnwrapsE
 have hE3:(((w.alloc (.cells #[.pointer (some t)] 206)).alloc (.cells #[.pointer (some ⟨18,206,none⟩),.pointer (some ⟨w.heap.size,0,none⟩),.int .u64 150] 251)).alloc (.cells #[.pointer (some ⟨18,206,none⟩),.pointer (some ⟨w.heap.size,0,none⟩),.int .u64 150] 251)).cell? ⟨hb,ho+1,none⟩=some (.iface 416 (.pointer (some a))):=by
  rw[World.cell?_alloc_lt _ _ ⟨hb,ho+1,none⟩ (by simp;omega),World.cell?_alloc_lt _ _ ⟨hb,ho+1,none⟩ (by simp;omega),World.cell?_alloc_lt _ _ ⟨hb,ho+1,none⟩ hbl];exact hE
 go_enter Tryz.func86,Tryz.ntmps86
 go_wp2
 refine wp_loop_rounds 2 ?_
 rw[rounds_succ]
 go_wp2
 rw[rounds_succ]
 go_wp2
 go_ret
 exact⟨rfl,rfl⟩
set_option maxRecDepth 1000000 in
set_option maxHeartbeats 4000000 in
theorem as_hit_P (hb ho:Nat)(a t:Addr)(old:Value)(w:World)(hg:w.cell? ⟨8,0,none⟩=some (.iface 315 (.agg #[.pointer (some ⟨18,69,none⟩)])))(hE:w.cell? ⟨hb,ho+1,none⟩=some (.iface 199 (.pointer (some a))))(ht0:w.cell? t=some old)(hf0:w.frozen? t=false):
  Calls Tryz.prog 86 #[.iface 159 (.pointer (some ⟨hb,ho,none⟩)),.iface 202 (.pointer (some t))] w fun ev w'=>ev=.returned (.bool true)∧w'=((((w.alloc (.cells #[.pointer (some t)] 202)).alloc (.cells #[.pointer (some ⟨18,202,none⟩),.pointer (some ⟨w.heap.size,0,none⟩),.int .u64 150] 251)).alloc (.cells #[.pointer (some ⟨18,202,none⟩),.pointer (some ⟨w.heap.size,0,none⟩),.int .u64 150] 251)).alloc (.cells #[.pointer (some a)] 199)).setCell t (.pointer (some a)):=by
 have x1:=@run_callFunc_extern Tryz.prog 105 _ (fun args=>ReflectliteValue.unpack (args.getD 0 (.tuple #[]))) Tryz.func105 (by kernel_rfl) (by kernel_rfl) (by kernel_rfl) (by kernel_rfl)
 have x2:=@run_callFunc_extern Tryz.prog 106 _ (ReflectliteValue.methodAny (ReflectliteValue.valueError "reflectlite.Value.Type" 0) (fun t _ _ _=>ReflectliteType.toType t)) Tryz.func106 (by kernel_rfl) (by kernel_rfl) (by kernel_rfl) (by kernel_rfl)
 have x3:=@run_callFunc_extern Tryz.prog 107 _ (ReflectliteValue.method (ReflectliteValue.valueError "reflectlite.Value.IsNil" 0) ReflectliteValue.isNil) Tryz.func107 (by kernel_rfl) (by kernel_rfl) (by kernel_rfl) (by kernel_rfl)
 have x4:=@run_callFunc_extern Tryz.prog 269 _ (ReflectliteType.abiMethod fun t=>do pure (.int .u8 (←Rtype.kind t))) Tryz.func269 (by kernel_rfl) (by kernel_rfl) (by kernel_rfl) (by kernel_rfl)
 have x5:=@run_callFunc_extern Tryz.prog 294 _ (ReflectliteType.method ReflectliteType.elem) Tryz.func294 (by kernel_rfl) (by kernel_rfl) (by kernel_rfl) (by kernel_rfl)
 have x6:=@run_callFunc_extern Tryz.prog 295 _ (ReflectliteType.relation "Implements" ReflectliteType.implements_) Tryz.func295 (by kernel_rfl) (by kernel_rfl) (by kernel_rfl) (by kernel_rfl)
 have x7:=@run_callFunc_extern Tryz.prog 109 _ ReflectliteType.typeOf Tryz.func109 (by kernel_rfl) (by kernel_rfl) (by kernel_rfl) (by kernel_rfl)
 have x8:=@run_callFunc_extern Tryz.prog 292 _ (ReflectliteType.relation "AssignableTo" ReflectliteType.assignableTo) Tryz.func292 (by kernel_rfl) (by kernel_rfl) (by kernel_rfl) (by kernel_rfl)
 have tH:=Tryz.typeOfH
 have tE:=Tryz.typeOfP
 have mA:=Tryz.methodAssignableTo
 have aH:=Tryz.assignHP
 have aE:=Tryz.assignPP
 have f6:=Tryz.valueOf2P
 have f7:=Tryz.type2P
 have mK:=Tryz.methodKind
 have mE:=Tryz.methodElem
 have mI:=Tryz.methodImplements
 have mU:=Tryz.methodUnwrap
 have k1:=Tryz.kind2P
 have k2:=Tryz.kind1P
 have e27:=Tryz.elem2P
 have i25:=Tryz.implementsP
 have nH:=Tryz.noAsH
 have uH:=Tryz.hasUnwrapH
 have n8:=Tryz.isNil2P ⟨w.heap.size,0,none⟩ t ((w.alloc (.cells #[.pointer (some t)] 202)).alloc (.cells #[.pointer (some ⟨18,202,none⟩),.pointer (some ⟨w.heap.size,0,none⟩),.int .u64 150] 251)) (by simp)
 have hlt:8<w.heap.size:=World.block_lt_of_cell? _ _ hg
 have hbl:hb<w.heap.size:=World.block_lt_of_cell? _ _ hE
 have hg2:((w.alloc (.cells #[.pointer (some t)] 202)).alloc (.cells #[.pointer (some ⟨18,202,none⟩),.pointer (some ⟨w.heap.size,0,none⟩),.int .u64 150] 251)).cell? ⟨8,0,none⟩=some (.iface 315 (.agg #[.pointer (some ⟨18,69,none⟩)])):=by
  rw[World.cell?_alloc_lt _ _ ⟨8,0,none⟩ (by simp;omega),World.cell?_alloc_lt _ _ ⟨8,0,none⟩ hlt];exact hg
 have x9:=@run_callFunc_extern Tryz.prog 149 _ (ReflectliteValue.method (ReflectliteValue.valueError "reflectlite.Value.Elem" 0) ReflectliteValue.elem) Tryz.func149 (by kernel_rfl) (by kernel_rfl) (by kernel_rfl) (by kernel_rfl)
 have x10:=@run_callFunc_extern Tryz.prog 150 _ ReflectliteValue.set Tryz.func150 (by kernel_rfl) (by kernel_rfl) (by kernel_rfl) (by kernel_rfl)
 have v25:=Tryz.valueOf1P
 have htl:t.block<w.heap.size:=World.block_lt_of_cell? _ _ ht0
 have hE3:(((w.alloc (.cells #[.pointer (some t)] 202)).alloc (.cells #[.pointer (some ⟨18,202,none⟩),.pointer (some ⟨w.heap.size,0,none⟩),.int .u64 150] 251)).alloc (.cells #[.pointer (some ⟨18,202,none⟩),.pointer (some ⟨w.heap.size,0,none⟩),.int .u64 150] 251)).cell? ⟨hb,ho+1,none⟩=some (.iface 199 (.pointer (some a))):=by
  rw[World.cell?_alloc_lt _ _ ⟨hb,ho+1,none⟩ (by simp;omega),World.cell?_alloc_lt _ _ ⟨hb,ho+1,none⟩ (by simp;omega),World.cell?_alloc_lt _ _ ⟨hb,ho+1,none⟩ hbl];exact hE
 have el:=Tryz.elemV2P ⟨w.heap.size,0,none⟩ t (((w.alloc (.cells #[.pointer (some t)] 202)).alloc (.cells #[.pointer (some ⟨18,202,none⟩),.pointer (some ⟨w.heap.size,0,none⟩),.int .u64 150] 251)).alloc (.cells #[.pointer (some ⟨18,202,none⟩),.pointer (some ⟨w.heap.size,0,none⟩),.int .u64 150] 251)) (by rw[World.cell?_alloc_lt _ _ ⟨w.heap.size,0,none⟩ (by simp;omega)];simp)
 have st:=Tryz.set1P t ⟨w.heap.size+1+1+1,0,none⟩ a old ((((w.alloc (.cells #[.pointer (some t)] 202)).alloc (.cells #[.pointer (some ⟨18,202,none⟩),.pointer (some ⟨w.heap.size,0,none⟩),.int .u64 150] 251)).alloc (.cells #[.pointer (some ⟨18,202,none⟩),.pointer (some ⟨w.heap.size,0,none⟩),.int .u64 150] 251)).alloc (.cells #[.pointer (some a)] 199))
  (by rw[World.cell?_alloc_at _ _ _ _ (by simp)];rfl)
  (by rw[World.cell?_alloc_lt _ _ t (by simp;omega),World.cell?_alloc_lt _ _ t (by simp;omega),World.cell?_alloc_lt _ _ t (by simp;omega),World.cell?_alloc_lt _ _ t htl];exact ht0)
  (by rw[World.frozen?_alloc_old _ _ t (by simp;omega),World.frozen?_alloc_old _ _ t (by simp;omega),World.frozen?_alloc_old _ _ t (by simp;omega),World.frozen?_alloc_old _ _ t (Nat.ne_of_lt htl)];exact hf0)
 go_enter Tryz.func86,Tryz.ntmps86
 go_wp2
 refine wp_loop_rounds 2 ?_
 rw[rounds_succ]
 go_wp2
 rw[rounds_succ]
 go_wp2
 go_ret
 exact⟨rfl,rfl⟩
end Go.Proofs.YtbokdbaagacnlaaGreatDoor
