import Derived.Test.YtbokdbaagacnlaaGreatDoorJQ13
import Derived.Deep.QuietTactic
import Derived.BigQuiet
import Derived.Test.YtbokdbaagacnlaaGreatDoorJQ3
import Derived.RowKit
namespace Go.Proofs.YtbokdbaagacnlaaGreatDoor
open Go.RowKit Go.Extern.Stop Go.Stop Go.Extern
set_option maxRecDepth 1000000 in
set_option maxHeartbeats 4000000 in
theorem as_hit_O (hb ho:Nat)(a t:Addr)(old:Value)(w:World)(hg:w.cell? ⟨8,0,none⟩=some (.iface 315 (.agg #[.pointer (some ⟨18,69,none⟩)])))(hE:w.cell? ⟨hb,ho+1,none⟩=some (.iface 200 (.pointer (some a))))(ht0:w.cell? t=some old)(hf0:w.frozen? t=false):
  Calls Tryz.prog 86 #[.iface 159 (.pointer (some ⟨hb,ho,none⟩)),.iface 206 (.pointer (some t))] w fun ev w'=>ev=.returned (.bool true)∧w'=((((w.alloc (.cells #[.pointer (some t)] 206)).alloc (.cells #[.pointer (some ⟨18,206,none⟩),.pointer (some ⟨w.heap.size,0,none⟩),.int .u64 150] 251)).alloc (.cells #[.pointer (some ⟨18,206,none⟩),.pointer (some ⟨w.heap.size,0,none⟩),.int .u64 150] 251)).alloc (.cells #[.pointer (some a)] 200)).setCell t (.pointer (some a)):=by
 have x1:=@run_callFunc_extern Tryz.prog 105 _ (fun args=>ReflectliteValue.unpack (args.getD 0 (.tuple #[]))) Tryz.func105 (by kernel_rfl) (by kernel_rfl) (by kernel_rfl) (by kernel_rfl)
 have x2:=@run_callFunc_extern Tryz.prog 106 _ (ReflectliteValue.methodAny (ReflectliteValue.valueError "reflectlite.Value.Type" 0) (fun t _ _ _=>ReflectliteType.toType t)) Tryz.func106 (by kernel_rfl) (by kernel_rfl) (by kernel_rfl) (by kernel_rfl)
 have x3:=@run_callFunc_extern Tryz.prog 107 _ (ReflectliteValue.method (ReflectliteValue.valueError "reflectlite.Value.IsNil" 0) ReflectliteValue.isNil) Tryz.func107 (by kernel_rfl) (by kernel_rfl) (by kernel_rfl) (by kernel_rfl)
 have x4:=@run_callFunc_extern Tryz.prog 269 _ (ReflectliteType.abiMethod fun t=>do pure (.int .u8 (←Rtype.kind t))) Tryz.func269 (by kernel_rfl) (by kernel_rfl) (by kernel_rfl) (by kernel_rfl)
 have x5:=@run_callFunc_extern Tryz.prog 294 _ (ReflectliteType.method ReflectliteType.elem) Tryz.func294 (by kernel_rfl) (by kernel_rfl) (by kernel_rfl) (by kernel_rfl)
 have x6:=@run_callFunc_extern Tryz.prog 295 _ (ReflectliteType.relation "Implements" ReflectliteType.implements_) Tryz.func295 (by kernel_rfl) (by kernel_rfl) (by kernel_rfl) (by kernel_rfl)
 have x7:=@run_callFunc_extern Tryz.prog 109 _ ReflectliteType.typeOf Tryz.func109 (by kernel_rfl) (by kernel_rfl) (by kernel_rfl) (by kernel_rfl)
 have x8:=@run_callFunc_extern Tryz.prog 292 _ (ReflectliteType.relation "AssignableTo" ReflectliteType.assignableTo) Tryz.func292 (by kernel_rfl) (by kernel_rfl) (by kernel_rfl) (by kernel_rfl)
 have tH:=Tryz.typeOfH
 have tE:=Tryz.typeOfO
 have mA:=Tryz.methodAssignableTo
 have aH:=Tryz.assignHO
 have aE:=Tryz.assignOO
 have f6:=Tryz.valueOf2O
 have f7:=Tryz.type2O
 have mK:=Tryz.methodKind
 have mE:=Tryz.methodElem
 have mI:=Tryz.methodImplements
 have mU:=Tryz.methodUnwrap
 have k1:=Tryz.kind2O
 have k2:=Tryz.kind1O
 have e27:=Tryz.elem2O
 have i25:=Tryz.implementsO
 have nH:=Tryz.noAsH
 have uH:=Tryz.hasUnwrapH
 have n8:=Tryz.isNil2O ⟨w.heap.size,0,none⟩ t ((w.alloc (.cells #[.pointer (some t)] 206)).alloc (.cells #[.pointer (some ⟨18,206,none⟩),.pointer (some ⟨w.heap.size,0,none⟩),.int .u64 150] 251)) (by simp)
 have hlt:8<w.heap.size:=World.block_lt_of_cell? _ _ hg
 have hbl:hb<w.heap.size:=World.block_lt_of_cell? _ _ hE
 have hg2:((w.alloc (.cells #[.pointer (some t)] 206)).alloc (.cells #[.pointer (some ⟨18,206,none⟩),.pointer (some ⟨w.heap.size,0,none⟩),.int .u64 150] 251)).cell? ⟨8,0,none⟩=some (.iface 315 (.agg #[.pointer (some ⟨18,69,none⟩)])):=by
  rw[World.cell?_alloc_lt _ _ ⟨8,0,none⟩ (by simp;omega),World.cell?_alloc_lt _ _ ⟨8,0,none⟩ hlt];exact hg
 have x9:=@run_callFunc_extern Tryz.prog 149 _ (ReflectliteValue.method (ReflectliteValue.valueError "reflectlite.Value.Elem" 0) ReflectliteValue.elem) Tryz.func149 (by kernel_rfl) (by kernel_rfl) (by kernel_rfl) (by kernel_rfl)
 have x10:=@run_callFunc_extern Tryz.prog 150 _ ReflectliteValue.set Tryz.func150 (by kernel_rfl) (by kernel_rfl) (by kernel_rfl) (by kernel_rfl)
 have v25:=Tryz.valueOf1O
 have htl:t.block<w.heap.size:=World.block_lt_of_cell? _ _ ht0
 have hE3:(((w.alloc (.cells #[.pointer (some t)] 206)).alloc (.cells #[.pointer (some ⟨18,206,none⟩),.pointer (some ⟨w.heap.size,0,none⟩),.int .u64 150] 251)).alloc (.cells #[.pointer (some ⟨18,206,none⟩),.pointer (some ⟨w.heap.size,0,none⟩),.int .u64 150] 251)).cell? ⟨hb,ho+1,none⟩=some (.iface 200 (.pointer (some a))):=by
  rw[World.cell?_alloc_lt _ _ ⟨hb,ho+1,none⟩ (by simp;omega),World.cell?_alloc_lt _ _ ⟨hb,ho+1,none⟩ (by simp;omega),World.cell?_alloc_lt _ _ ⟨hb,ho+1,none⟩ hbl];exact hE
 have el:=Tryz.elemV2O ⟨w.heap.size,0,none⟩ t (((w.alloc (.cells #[.pointer (some t)] 206)).alloc (.cells #[.pointer (some ⟨18,206,none⟩),.pointer (some ⟨w.heap.size,0,none⟩),.int .u64 150] 251)).alloc (.cells #[.pointer (some ⟨18,206,none⟩),.pointer (some ⟨w.heap.size,0,none⟩),.int .u64 150] 251)) (by rw[World.cell?_alloc_lt _ _ ⟨w.heap.size,0,none⟩ (by simp;omega)];simp)
 have st:=Tryz.set1O t ⟨w.heap.size+1+1+1,0,none⟩ a old ((((w.alloc (.cells #[.pointer (some t)] 206)).alloc (.cells #[.pointer (some ⟨18,206,none⟩),.pointer (some ⟨w.heap.size,0,none⟩),.int .u64 150] 251)).alloc (.cells #[.pointer (some ⟨18,206,none⟩),.pointer (some ⟨w.heap.size,0,none⟩),.int .u64 150] 251)).alloc (.cells #[.pointer (some a)] 200))
  (by rw[World.cell?_alloc_at _ _ _ _ (by simp)];rfl)
  (by rw[World.cell?_alloc_lt _ _ t (by simp;omega),World.cell?_alloc_lt _ _ t (by simp;omega),World.cell?_alloc_lt _ _ t (by simp;omega),World.cell?_alloc_lt _ _ t htl];exact ht0)
  (by rw[World.frozen?_alloc_old _ _ t (by simp;omega),World.frozen?_alloc_old _ _ t (by simp;omega),World.frozen?_alloc_old _ _ t (by simp;omega),World.frozen?_alloc_old _ _ t (Nat.ne_of_lt htl)];exact hf0)
 go_enter Tryz.func86,Tryz.ntmps86
 go_wp2
 refine wp_loop_rounds 2 ?_
 rw[rounds_succ]
 go_wp2
 rw[rounds_succ]
 go_wp2
 go_ret
 exact⟨rfl,rfl⟩
/-! errors.Is -/
noncomputable def zMW : Array Value→Sem Value:=ReflectliteType.method fun t=>do Rtype.noPackHeld "Comparable" t;pure (.bool (←typeInfo t).comparable)
theorem Tryz.isComparable (w:World):(zMW #[.agg #[.pointer (some ⟨18,416,none⟩)]]).run Tryz.prog w=.ok (.bool true) w:=by kernel_rfl
theorem Tryz.isCompE : (Tryz.prog.info? 416).map (·.comparable)=some true:=by kernel_rfl
theorem Tryz.isSizeE : (Tryz.prog.info? 435).map (·.size)=some 1:=by kernel_rfl
set_option maxRecDepth 1000000 in
set_option maxHeartbeats 4000000 in
theorem is_hit (pb po:Nat)(b:Addr)(w:World)(h1:w.cell? ⟨pb,po+1,none⟩=some (.iface 416 (.pointer (some b)))):
  Calls Tryz.prog 87 #[.iface 159 (.pointer (some ⟨pb,po,none⟩)),.iface 416 (.pointer (some b))] w fun e w'=>e=.returned (.bool true)∧w'=w:=by
 obtain⟨i,hi,hcmp⟩:=Option.map_eq_some_iff.1 Tryz.isCompE
 obtain⟨j,hj,hjs⟩:=Option.map_eq_some_iff.1 Tryz.isSizeE
 have x1:=@run_callFunc_extern Tryz.prog 109 _ ReflectliteType.typeOf Tryz.func109 (by kernel_rfl) (by kernel_rfl) (by kernel_rfl) (by kernel_rfl)
 have x2:=@run_callFunc_extern Tryz.prog 293 _ zMW Tryz.func293 (by kernel_rfl) (by kernel_rfl) (by kernel_rfl) (by kernel_rfl)
 have tT:=Tryz.typeOfE
 have cT:=Tryz.isComparable
 have mR:=Tryz.methodComparable
 have nW:=Tryz.noIsH
 have uW:=Tryz.hasUnwrapH
 have mU:=Tryz.methodUnwrap
 have heq:=run_eql_iface_ptr_same (P:=Tryz.prog) w b Tryz.underlying69 Tryz.underlying416 hi hcmp hj
 have hty:=run_eql_iface_types (P:=Tryz.prog) 159 416 (.pointer (some ⟨pb,po,none⟩)) (.pointer (some b)) Tryz.underlying69 (by decide) w
 go_enter Tryz.func87,Tryz.ntmps87
 go_wp2
 refine wp_loop_rounds 2 ?_
 rw[rounds_succ]
 go_wp2
 rw[rounds_succ]
 go_wp2
 go_ret
 exact⟨rfl,rfl⟩
set_option maxRecDepth 1000000 in
set_option maxHeartbeats 4000000 in
theorem is_miss (pb po:Nat)(b c:Addr)(hne:b≠c)(w:World){cb cc:Array Value}{tb tc:TypeId}(hb:w.heap[b.block]?=some (.cells cb tb (0,0)))(hc:w.heap[c.block]?=some (.cells cc tc (0,0)))(h1:w.cell? ⟨pb,po+1,none⟩=some (.iface 416 (.pointer (some b)))):
  Calls Tryz.prog 87 #[.iface 159 (.pointer (some ⟨pb,po,none⟩)),.iface 416 (.pointer (some c))] w fun e w'=>e=.returned (.bool false)∧w'=w:=by
 obtain⟨i,hi,hcmp⟩:=Option.map_eq_some_iff.1 Tryz.isCompE
 obtain⟨j,hj,hjs⟩:=Option.map_eq_some_iff.1 Tryz.isSizeE
 have x1:=@run_callFunc_extern Tryz.prog 109 _ ReflectliteType.typeOf Tryz.func109 (by kernel_rfl) (by kernel_rfl) (by kernel_rfl) (by kernel_rfl)
 have x2:=@run_callFunc_extern Tryz.prog 293 _ zMW Tryz.func293 (by kernel_rfl) (by kernel_rfl) (by kernel_rfl) (by kernel_rfl)
 have tT:=Tryz.typeOfE
 have cT:=Tryz.isComparable
 have mR:=Tryz.methodComparable
 have nW:=Tryz.noIsH
 have uW:=Tryz.hasUnwrapH
 have mU:=Tryz.methodUnwrap
 have nE:=Tryz.noIsE
 have uE:=Tryz.noUnwrapE
 have vE:=Tryz.noUnwrapsE
 have heq:=run_eql_iface_ptr_other (P:=Tryz.prog) w Tryz.underlying69 Tryz.underlying416 hi hcmp hj (by rw[hjs];decide) hne hb hc
 have hty:=run_eql_iface_types (P:=Tryz.prog) 159 416 (.pointer (some ⟨pb,po,none⟩)) (.pointer (some c)) Tryz.underlying69 (by decide) w
 go_enter Tryz.func87,Tryz.ntmps87
 go_wp2
 refine wp_loop_rounds 2 ?_
 rw[rounds_succ]
 go_wp2
 rw[rounds_succ]
 go_wp2
 go_ret
 exact⟨rfl,rfl⟩
def zKZ (w:World):Prop:=w.cell? ⟨8,0,none⟩=some (.iface 315 (.agg #[.pointer (some ⟨18,69,none⟩)]))
theorem zEQ {w w':World}(hb:Below w.heap.size w w'){a:Addr}{v:Value}(hc:w.cell? a=some v):w'.cell? a=some v:=(hb.cell (World.block_lt_of_cell? w a hc)).trans hc
theorem zKZ.below {w w':World}(h:zKZ w)(hb:Below w.heap.size w w'):zKZ w':=zEQ hb h
theorem Tryz.compP : (Tryz.prog.info? 199).map (·.comparable)=some true:=by kernel_rfl
theorem Tryz.sizeP : (Tryz.prog.info? 205).map (·.size)=some 1:=by kernel_rfl
theorem Tryz.compO : (Tryz.prog.info? 200).map (·.comparable)=some true:=by kernel_rfl
theorem Tryz.sizeO : (Tryz.prog.info? 270).map (·.size)=some 1:=by kernel_rfl
theorem Tryz.assert64 (v:Value)(xT:TypeId)(w:World):(Instr.typeAssert (.iface 2 v) xT 2 true).run Tryz.prog w=.ok (.tuple #[v,.bool true]) w:=by kernel_rfl
def zGD (e p n:Int):Value:=.agg #[.int .i64 e,.int .i64 p,.int .i64 n,.string { data:=#[] }]
set_option maxRecDepth 1000000 in
set_option maxHeartbeats 1000000 in
theorem zPR (hb:Nat)(n:Int)(a:Addr)(w:World)(hg:zKZ w)(h0:w.cell? ⟨hb,0,none⟩=some (.int .i64 n))(h1:w.cell? ⟨hb,1,none⟩=some (.iface 416 (.pointer (some a))))(h5:w.cell? ⟨3,0,none⟩=some (.iface 416 (.pointer (some a)))):
  Calls Tryz.prog 57 #[.pointer (some ⟨hb,0,none⟩)] w fun e w'=>e=.returned (zGD 8 n 0)∧Below w.heap.size w w':=by
 have hlg:8<w.heap.size:=World.block_lt_of_cell? _ _ hg
 have hlb:hb<w.heap.size:=World.block_lt_of_cell? _ _ h0
 obtain⟨i,hi,hcmp⟩:=Option.map_eq_some_iff.1 Tryz.isCompE
 obtain⟨j,hj,hjs⟩:=Option.map_eq_some_iff.1 Tryz.isSizeE
 have heq:=fun W=>run_eql_iface_ptr_same (P:=Tryz.prog) W a Tryz.underlying69 Tryz.underlying416 hi hcmp hj
 clear hi hcmp hj hjs
 have hl5:3<w.heap.size:=World.block_lt_of_cell? _ _ h5
 go_enter Tryz.func57,Tryz.ntmps57
 go_wp2_with fail
 refine(zLT hb 0 a _ _ ?_ ?_).mono ?_
 ·exact zEQ (w:=w) (by repeat (first | exact Below.refl _ _ | refine Below.setCell ?_ (by first | exact Nat.le_refl _ | (simp;done) | (simp;omega)) _ | refine Below.alloc ?_ (by first | exact Nat.le_refl _ | (simp;done) | (simp;omega)) _)) hg
 ·exact zEQ (w:=w) (by repeat (first | exact Below.refl _ _ | refine Below.setCell ?_ (by first | exact Nat.le_refl _ | (simp;done) | (simp;omega)) _ | refine Below.alloc ?_ (by first | exact Nat.le_refl _ | (simp;done) | (simp;omega)) _)) h1
 rintro e w' ⟨rfl,rfl⟩
 go_wp2_with fail
 refine(zLU hb 0 a _ _ ?_ ?_).mono ?_
 ·exact zEQ (w:=w) (by repeat (first | exact Below.refl _ _ | refine Below.setCell ?_ (by first | exact Nat.le_refl _ | (simp;done) | (simp;omega)) _ | refine Below.alloc ?_ (by first | exact Nat.le_refl _ | (simp;done) | (simp;omega)) _)) hg
 ·exact zEQ (w:=w) (by repeat (first | exact Below.refl _ _ | refine Below.setCell ?_ (by first | exact Nat.le_refl _ | (simp;done) | (simp;omega)) _ | refine Below.alloc ?_ (by first | exact Nat.le_refl _ | (simp;done) | (simp;omega)) _)) h1
 rintro e w1 ⟨rfl,hw1⟩
 have HX:Hid (Below w.heap.size w w1):=by
  show Below w.heap.size w w1
  rw[hw1]
  repeat (first | exact Below.refl _ _ | refine Below.setCell ?_ (by first | exact Nat.le_refl _ | (simp;done) | (simp;omega)) _ | refine Below.alloc ?_ (by first | exact Nat.le_refl _ | (simp;done) | (simp;omega)) _)
 have HX2:Hid (∀ n,Below w.heap.size w (w1.drewN n)):=fun n=>⟨HX.out.os,HX.out.tape,HX.out.output,HX.out.size,HX.out.block⟩
 have c00:w1.cell? ⟨w.heap.size,0,none⟩=some (.int .i64 0):=by rw[hw1];go_simp
 have z00:w1.frozen? ⟨w.heap.size,0,none⟩=false:=by rw[hw1];go_simp
 have c01:w1.cell? ⟨w.heap.size,1,none⟩=some (.int .i64 0):=by rw[hw1];go_simp
 have z01:w1.frozen? ⟨w.heap.size,1,none⟩=false:=by rw[hw1];go_simp
 have c02:w1.cell? ⟨w.heap.size,2,none⟩=some (.int .i64 0):=by rw[hw1];go_simp
 have z02:w1.frozen? ⟨w.heap.size,2,none⟩=false:=by rw[hw1];go_simp
 have c03:w1.cell? ⟨w.heap.size,3,none⟩=some (.string { data:=#[] }):=by rw[hw1];go_simp
 have z03:w1.frozen? ⟨w.heap.size,3,none⟩=false:=by rw[hw1];go_simp
 have c10:w1.cell? ⟨w.heap.size+1,0,none⟩=some (.int .i64 99):=by rw[hw1];go_simp
 have z10:w1.frozen? ⟨w.heap.size+1,0,none⟩=false:=by rw[hw1];go_simp
 have c11:w1.cell? ⟨w.heap.size+1,1,none⟩=some (.int .i64 n):=by rw[hw1];go_simp
 have z11:w1.frozen? ⟨w.heap.size+1,1,none⟩=false:=by rw[hw1];go_simp
 have c12:w1.cell? ⟨w.heap.size+1,2,none⟩=some (.int .i64 0):=by rw[hw1];go_simp
 have z12:w1.frozen? ⟨w.heap.size+1,2,none⟩=false:=by rw[hw1];go_simp
 have c13:w1.cell? ⟨w.heap.size+1,3,none⟩=some (.string { data:=#[] }):=by rw[hw1];go_simp
 have z13:w1.frozen? ⟨w.heap.size+1,3,none⟩=false:=by rw[hw1];go_simp
 clear hw1
 have hE:=zEQ HX.out h1
 have hE5:=zEQ HX.out h5
 go_wp2_with fail
 go_quiet (first | (go_at_call 87;refine Calls.quiet_of_same (is_hit hb 0 a _ ?_);exact hE))
 go_wp2
 refine bodyPost_ret (v:=zGD 8 n 0) (by simp[zGD,results,Tryz.results57,go_sem,c00,c01,c02,c03]) rfl ⟨rfl,?_⟩
 iterate 5 (refine Below.setCell ?_ (by first | exact Nat.le_refl _ | (simp;done)) _)
 exact HX2.out _
set_option maxRecDepth 1000000 in
set_option maxHeartbeats 1000000 in
theorem zPQ (hb:Nat)(n:Int)(a:Addr)(w:World)(hg:zKZ w)(h0:w.cell? ⟨hb,0,none⟩=some (.int .i64 n))(h1:w.cell? ⟨hb,1,none⟩=some (.iface 200 (.pointer (some a)))):
  Calls Tryz.prog 57 #[.pointer (some ⟨hb,0,none⟩)] w fun e w'=>e=.returned (zGD 10 n 0)∧Below w.heap.size w w':=by
 have hlg:8<w.heap.size:=World.block_lt_of_cell? _ _ hg
 have hlb:hb<w.heap.size:=World.block_lt_of_cell? _ _ h0
 obtain⟨i,hi,hcmp⟩:=Option.map_eq_some_iff.1 Tryz.compO
 obtain⟨j,hj,hjs⟩:=Option.map_eq_some_iff.1 Tryz.sizeO
 have heq:=fun W=>run_eql_iface_ptr_same (P:=Tryz.prog) W a Tryz.underlying69 Tryz.underlying200 hi hcmp hj
 clear hi hcmp hj hjs
 go_enter Tryz.func57,Tryz.ntmps57
 go_wp2_with fail
 refine(as_miss_PO hb 0 a _ _ ?_ ?_).mono ?_
 ·exact zEQ (w:=w) (by repeat (first | exact Below.refl _ _ | refine Below.setCell ?_ (by first | exact Nat.le_refl _ | (simp;done) | (simp;omega)) _ | refine Below.alloc ?_ (by first | exact Nat.le_refl _ | (simp;done) | (simp;omega)) _)) hg
 ·exact zEQ (w:=w) (by repeat (first | exact Below.refl _ _ | refine Below.setCell ?_ (by first | exact Nat.le_refl _ | (simp;done) | (simp;omega)) _ | refine Below.alloc ?_ (by first | exact Nat.le_refl _ | (simp;done) | (simp;omega)) _)) h1
 rintro e w' ⟨rfl,rfl⟩
 go_wp2_with fail
 refine(as_hit_O hb 0 a _ (.pointer none) _ ?_ ?_ ?_ ?_).mono ?_
 ·exact zEQ (w:=w) (by repeat (first | exact Below.refl _ _ | refine Below.setCell ?_ (by first | exact Nat.le_refl _ | (simp;done) | (simp;omega)) _ | refine Below.alloc ?_ (by first | exact Nat.le_refl _ | (simp;done) | (simp;omega)) _)) hg
 ·exact zEQ (w:=w) (by repeat (first | exact Below.refl _ _ | refine Below.setCell ?_ (by first | exact Nat.le_refl _ | (simp;done) | (simp;omega)) _ | refine Below.alloc ?_ (by first | exact Nat.le_refl _ | (simp;done) | (simp;omega)) _)) h1
 ·go_simp
 ·go_simp
 rintro e w1 ⟨rfl,hw1⟩
 have HX:Hid (Below w.heap.size w w1):=by
  show Below w.heap.size w w1
  rw[hw1]
  repeat (first | exact Below.refl _ _ | refine Below.setCell ?_ (by first | exact Nat.le_refl _ | (simp;done) | (simp;omega)) _ | refine Below.alloc ?_ (by first | exact Nat.le_refl _ | (simp;done) | (simp;omega)) _)
 have HX2:Hid (∀ n,Below w.heap.size w (w1.drewN n)):=fun n=>⟨HX.out.os,HX.out.tape,HX.out.output,HX.out.size,HX.out.block⟩
 have c00:w1.cell? ⟨w.heap.size,0,none⟩=some (.int .i64 0):=by rw[hw1];go_simp
 have z00:w1.frozen? ⟨w.heap.size,0,none⟩=false:=by rw[hw1];go_simp
 have c01:w1.cell? ⟨w.heap.size,1,none⟩=some (.int .i64 0):=by rw[hw1];go_simp
 have z01:w1.frozen? ⟨w.heap.size,1,none⟩=false:=by rw[hw1];go_simp
 have c02:w1.cell? ⟨w.heap.size,2,none⟩=some (.int .i64 0):=by rw[hw1];go_simp
 have z02:w1.frozen? ⟨w.heap.size,2,none⟩=false:=by rw[hw1];go_simp
 have c03:w1.cell? ⟨w.heap.size,3,none⟩=some (.string { data:=#[] }):=by rw[hw1];go_simp
 have z03:w1.frozen? ⟨w.heap.size,3,none⟩=false:=by rw[hw1];go_simp
 have c10:w1.cell? ⟨w.heap.size+1,0,none⟩=some (.int .i64 99):=by rw[hw1];go_simp
 have z10:w1.frozen? ⟨w.heap.size+1,0,none⟩=false:=by rw[hw1];go_simp
 have c11:w1.cell? ⟨w.heap.size+1,1,none⟩=some (.int .i64 n):=by rw[hw1];go_simp
 have z11:w1.frozen? ⟨w.heap.size+1,1,none⟩=false:=by rw[hw1];go_simp
 have c12:w1.cell? ⟨w.heap.size+1,2,none⟩=some (.int .i64 0):=by rw[hw1];go_simp
 have z12:w1.frozen? ⟨w.heap.size+1,2,none⟩=false:=by rw[hw1];go_simp
 have c13:w1.cell? ⟨w.heap.size+1,3,none⟩=some (.string { data:=#[] }):=by rw[hw1];go_simp
 have z13:w1.frozen? ⟨w.heap.size+1,3,none⟩=false:=by rw[hw1];go_simp
 have cO:w1.cell? ⟨w.heap.size+3,0,none⟩=some (.pointer (some a)):=by rw[hw1];go_simp
 clear hw1
 have hE:=zEQ HX.out h1
 go_wp2_with fail
 go_quiet (fail)
 go_wp2
 refine bodyPost_ret (v:=zGD 10 n 0) (by simp[zGD,results,Tryz.results57,go_sem,c00,c01,c02,c03]) rfl ⟨rfl,?_⟩
 iterate 5 (refine Below.setCell ?_ (by first | exact Nat.le_refl _ | (simp;done)) _)
 exact HX2.out _
set_option maxRecDepth 1000000 in
set_option maxHeartbeats 1000000 in
theorem zPP (hb:Nat)(n:Int)(a:Addr)(w:World)(hg:zKZ w)(h0:w.cell? ⟨hb,0,none⟩=some (.int .i64 n))(h1:w.cell? ⟨hb,1,none⟩=some (.iface 416 (.pointer (some a))))(c:Addr)(h5:w.cell? ⟨3,0,none⟩=some (.iface 416 (.pointer (some c))))(h6:w.cell? ⟨4,0,none⟩=some (.iface 416 (.pointer (some a))))(hne:a≠c){ca cc:Array Value}{ta tc:TypeId}(ha:w.heap[a.block]?=some (.cells ca ta (0,0)))(hc:w.heap[c.block]?=some (.cells cc tc (0,0))):
  Calls Tryz.prog 57 #[.pointer (some ⟨hb,0,none⟩)] w fun e w'=>e=.returned (zGD 9 n 0)∧Below w.heap.size w w':=by
 have hlg:8<w.heap.size:=World.block_lt_of_cell? _ _ hg
 have hlb:hb<w.heap.size:=World.block_lt_of_cell? _ _ h0
 obtain⟨i,hi,hcmp⟩:=Option.map_eq_some_iff.1 Tryz.isCompE
 obtain⟨j,hj,hjs⟩:=Option.map_eq_some_iff.1 Tryz.isSizeE
 have heq:=fun W=>run_eql_iface_ptr_same (P:=Tryz.prog) W a Tryz.underlying69 Tryz.underlying416 hi hcmp hj
 clear hi hcmp hj hjs
 go_enter Tryz.func57,Tryz.ntmps57
 go_wp2_with fail
 refine(zLT hb 0 a _ _ ?_ ?_).mono ?_
 ·exact zEQ (w:=w) (by repeat (first | exact Below.refl _ _ | refine Below.setCell ?_ (by first | exact Nat.le_refl _ | (simp;done) | (simp;omega)) _ | refine Below.alloc ?_ (by first | exact Nat.le_refl _ | (simp;done) | (simp;omega)) _)) hg
 ·exact zEQ (w:=w) (by repeat (first | exact Below.refl _ _ | refine Below.setCell ?_ (by first | exact Nat.le_refl _ | (simp;done) | (simp;omega)) _ | refine Below.alloc ?_ (by first | exact Nat.le_refl _ | (simp;done) | (simp;omega)) _)) h1
 rintro e w' ⟨rfl,rfl⟩
 go_wp2_with fail
 refine(zLU hb 0 a _ _ ?_ ?_).mono ?_
 ·exact zEQ (w:=w) (by repeat (first | exact Below.refl _ _ | refine Below.setCell ?_ (by first | exact Nat.le_refl _ | (simp;done) | (simp;omega)) _ | refine Below.alloc ?_ (by first | exact Nat.le_refl _ | (simp;done) | (simp;omega)) _)) hg
 ·exact zEQ (w:=w) (by repeat (first | exact Below.refl _ _ | refine Below.setCell ?_ (by first | exact Nat.le_refl _ | (simp;done) | (simp;omega)) _ | refine Below.alloc ?_ (by first | exact Nat.le_refl _ | (simp;done) | (simp;omega)) _)) h1
 rintro e w1 ⟨rfl,hw1⟩
 have HX:Hid (Below w.heap.size w w1):=by
  show Below w.heap.size w w1
  rw[hw1]
  repeat (first | exact Below.refl _ _ | refine Below.setCell ?_ (by first | exact Nat.le_refl _ | (simp;done) | (simp;omega)) _ | refine Below.alloc ?_ (by first | exact Nat.le_refl _ | (simp;done) | (simp;omega)) _)
 have HX2:Hid (∀ n,Below w.heap.size w (w1.drewN n)):=fun n=>⟨HX.out.os,HX.out.tape,HX.out.output,HX.out.size,HX.out.block⟩
 have c00:w1.cell? ⟨w.heap.size,0,none⟩=some (.int .i64 0):=by rw[hw1];go_simp
 have z00:w1.frozen? ⟨w.heap.size,0,none⟩=false:=by rw[hw1];go_simp
 have c01:w1.cell? ⟨w.heap.size,1,none⟩=some (.int .i64 0):=by rw[hw1];go_simp
 have z01:w1.frozen? ⟨w.heap.size,1,none⟩=false:=by rw[hw1];go_simp
 have c02:w1.cell? ⟨w.heap.size,2,none⟩=some (.int .i64 0):=by rw[hw1];go_simp
 have z02:w1.frozen? ⟨w.heap.size,2,none⟩=false:=by rw[hw1];go_simp
 have c03:w1.cell? ⟨w.heap.size,3,none⟩=some (.string { data:=#[] }):=by rw[hw1];go_simp
 have z03:w1.frozen? ⟨w.heap.size,3,none⟩=false:=by rw[hw1];go_simp
 have c10:w1.cell? ⟨w.heap.size+1,0,none⟩=some (.int .i64 99):=by rw[hw1];go_simp
 have z10:w1.frozen? ⟨w.heap.size+1,0,none⟩=false:=by rw[hw1];go_simp
 have c11:w1.cell? ⟨w.heap.size+1,1,none⟩=some (.int .i64 n):=by rw[hw1];go_simp
 have z11:w1.frozen? ⟨w.heap.size+1,1,none⟩=false:=by rw[hw1];go_simp
 have c12:w1.cell? ⟨w.heap.size+1,2,none⟩=some (.int .i64 0):=by rw[hw1];go_simp
 have z12:w1.frozen? ⟨w.heap.size+1,2,none⟩=false:=by rw[hw1];go_simp
 have c13:w1.cell? ⟨w.heap.size+1,3,none⟩=some (.string { data:=#[] }):=by rw[hw1];go_simp
 have z13:w1.frozen? ⟨w.heap.size+1,3,none⟩=false:=by rw[hw1];go_simp
 clear hw1
 have hE:=zEQ HX.out h1
 have hE5:=zEQ HX.out h5
 have hE6:=zEQ HX.out h6
 have ha1:=(HX.out.block _ (zA2 ha)).trans ha
 have hc1:=(HX.out.block _ (zA2 hc)).trans hc
 go_wp2_with fail
 go_quiet (first | (go_at_call 87;refine Calls.quiet_of_same (is_miss hb 0 a c hne _ (by exact ha1) (by exact hc1) (by exact hE))))
 obtain⟨w2,hw2⟩:∃ w2,w2=w1.drewN nq:=⟨_,rfl⟩
 rw[←hw2]
 replace c00:w2.cell? ⟨w.heap.size,0,none⟩=some (.int .i64 0):=by rw[hw2];exact c00
 replace z00:w2.frozen? ⟨w.heap.size,0,none⟩=false:=by rw[hw2];exact z00
 replace c01:w2.cell? ⟨w.heap.size,1,none⟩=some (.int .i64 0):=by rw[hw2];exact c01
 replace z01:w2.frozen? ⟨w.heap.size,1,none⟩=false:=by rw[hw2];exact z01
 replace c02:w2.cell? ⟨w.heap.size,2,none⟩=some (.int .i64 0):=by rw[hw2];exact c02
 replace z02:w2.frozen? ⟨w.heap.size,2,none⟩=false:=by rw[hw2];exact z02
 replace c03:w2.cell? ⟨w.heap.size,3,none⟩=some (.string { data:=#[] }):=by rw[hw2];exact c03
 replace z03:w2.frozen? ⟨w.heap.size,3,none⟩=false:=by rw[hw2];exact z03
 replace c10:w2.cell? ⟨w.heap.size+1,0,none⟩=some (.int .i64 99):=by rw[hw2];exact c10
 replace z10:w2.frozen? ⟨w.heap.size+1,0,none⟩=false:=by rw[hw2];exact z10
 replace c11:w2.cell? ⟨w.heap.size+1,1,none⟩=some (.int .i64 n):=by rw[hw2];exact c11
 replace z11:w2.frozen? ⟨w.heap.size+1,1,none⟩=false:=by rw[hw2];exact z11
 replace c12:w2.cell? ⟨w.heap.size+1,2,none⟩=some (.int .i64 0):=by rw[hw2];exact c12
 replace z12:w2.frozen? ⟨w.heap.size+1,2,none⟩=false:=by rw[hw2];exact z12
 replace c13:w2.cell? ⟨w.heap.size+1,3,none⟩=some (.string { data:=#[] }):=by rw[hw2];exact c13
 replace z13:w2.frozen? ⟨w.heap.size+1,3,none⟩=false:=by rw[hw2];exact z13
 replace hE:w2.cell? ⟨hb,1,none⟩=some (.iface 416 (.pointer (some a))):=by rw[hw2];exact hE
 replace hE6:w2.cell? ⟨4,0,none⟩=some (.iface 416 (.pointer (some a))):=by rw[hw2];exact hE6
 replace HX:Hid (Below w.heap.size w w2):=by show Below w.heap.size w w2;rw[hw2];exact HX2.out nq
 replace HX2:Hid (∀ n,Below w.heap.size w (w2.drewN n)):=fun n=>⟨HX.out.os,HX.out.tape,HX.out.output,HX.out.size,HX.out.block⟩
 clear hw2 ha1 hc1 hE5
 go_wp2_with fail
 go_quiet (first | (go_at_call 87;refine Calls.quiet_of_same (is_hit hb 0 a _ ?_);exact hE))
 go_wp2
 refine bodyPost_ret (v:=zGD 9 n 0) (by simp[zGD,results,Tryz.results57,go_sem,c00,c01,c02,c03]) rfl ⟨rfl,?_⟩
 iterate 5 (refine Below.setCell ?_ (by first | exact Nat.le_refl _ | (simp;done)) _)
 exact HX2.out _
set_option maxRecDepth 1000000 in
set_option maxHeartbeats 4000000 in
theorem hold_panic (hb c:Nat)(n:Int)(a:Addr)(w:World)(hg:zKZ w)(h0:w.cell? ⟨hb,0,none⟩=some (.int .i64 n))(h1:w.cell? ⟨hb,1,none⟩=some (.iface 199 (.pointer (some a))))(m:Int)(hv:w.cell? ⟨c,0,none⟩=some (.iface 2 (.int .i64 m)))(ha:a=⟨c,0,none⟩):
  Calls Tryz.prog 57 #[.pointer (some ⟨hb,0,none⟩)] w fun e w'=>e=.returned (zGD 11 n m)∧Below w.heap.size w w':=by
 have hlg:8<w.heap.size:=World.block_lt_of_cell? _ _ hg
 have hlb:hb<w.heap.size:=World.block_lt_of_cell? _ _ h0
 subst ha
 obtain⟨i,hi,hcmp⟩:=Option.map_eq_some_iff.1 Tryz.compP
 obtain⟨j,hj,hjs⟩:=Option.map_eq_some_iff.1 Tryz.sizeP
 have heq:=fun W=>run_eql_iface_ptr_same (P:=Tryz.prog) W ⟨c,0,none⟩ Tryz.underlying69 Tryz.underlying199 hi hcmp hj
 clear hi hcmp hj hjs
 go_enter Tryz.func57,Tryz.ntmps57
 go_wp2_with fail
 refine(as_hit_P hb 0 ⟨c,0,none⟩ _ (.pointer none) _ ?_ ?_ ?_ ?_).mono ?_
 ·exact zEQ (w:=w) (by repeat (first | exact Below.refl _ _ | refine Below.setCell ?_ (by first | exact Nat.le_refl _ | (simp;done) | (simp;omega)) _ | refine Below.alloc ?_ (by first | exact Nat.le_refl _ | (simp;done) | (simp;omega)) _)) hg
 ·exact zEQ (w:=w) (by repeat (first | exact Below.refl _ _ | refine Below.setCell ?_ (by first | exact Nat.le_refl _ | (simp;done) | (simp;omega)) _ | refine Below.alloc ?_ (by first | exact Nat.le_refl _ | (simp;done) | (simp;omega)) _)) h1
 ·go_simp
 ·go_simp
 rintro e w1 ⟨rfl,hw1⟩
 have HX:Hid (Below w.heap.size w w1):=by
  show Below w.heap.size w w1
  rw[hw1]
  repeat (first | exact Below.refl _ _ | refine Below.setCell ?_ (by first | exact Nat.le_refl _ | (simp;done) | (simp;omega)) _ | refine Below.alloc ?_ (by first | exact Nat.le_refl _ | (simp;done) | (simp;omega)) _)
 have HX2:Hid (∀ n,Below w.heap.size w (w1.drewN n)):=fun n=>⟨HX.out.os,HX.out.tape,HX.out.output,HX.out.size,HX.out.block⟩
 have c00:w1.cell? ⟨w.heap.size,0,none⟩=some (.int .i64 0):=by rw[hw1];go_simp
 have z00:w1.frozen? ⟨w.heap.size,0,none⟩=false:=by rw[hw1];go_simp
 have c01:w1.cell? ⟨w.heap.size,1,none⟩=some (.int .i64 0):=by rw[hw1];go_simp
 have z01:w1.frozen? ⟨w.heap.size,1,none⟩=false:=by rw[hw1];go_simp
 have c02:w1.cell? ⟨w.heap.size,2,none⟩=some (.int .i64 0):=by rw[hw1];go_simp
 have z02:w1.frozen? ⟨w.heap.size,2,none⟩=false:=by rw[hw1];go_simp
 have c03:w1.cell? ⟨w.heap.size,3,none⟩=some (.string { data:=#[] }):=by rw[hw1];go_simp
 have z03:w1.frozen? ⟨w.heap.size,3,none⟩=false:=by rw[hw1];go_simp
 have c10:w1.cell? ⟨w.heap.size+1,0,none⟩=some (.int .i64 99):=by rw[hw1];go_simp
 have z10:w1.frozen? ⟨w.heap.size+1,0,none⟩=false:=by rw[hw1];go_simp
 have c11:w1.cell? ⟨w.heap.size+1,1,none⟩=some (.int .i64 n):=by rw[hw1];go_simp
 have z11:w1.frozen? ⟨w.heap.size+1,1,none⟩=false:=by rw[hw1];go_simp
 have c12:w1.cell? ⟨w.heap.size+1,2,none⟩=some (.int .i64 0):=by rw[hw1];go_simp
 have z12:w1.frozen? ⟨w.heap.size+1,2,none⟩=false:=by rw[hw1];go_simp
 have c13:w1.cell? ⟨w.heap.size+1,3,none⟩=some (.string { data:=#[] }):=by rw[hw1];go_simp
 have z13:w1.frozen? ⟨w.heap.size+1,3,none⟩=false:=by rw[hw1];go_simp
 have cP:w1.cell? ⟨w.heap.size+2,0,none⟩=some (.pointer (some ⟨c,0,none⟩)):=by rw[hw1];go_simp
 clear hw1
 have hE:=zEQ HX.out h1
 have hV:=zEQ HX.out hv
 have hta:=Tryz.assert64
 go_wp2_with fail
 go_quiet (fail)
 go_wp2
 refine bodyPost_ret (v:=zGD 11 n m) (by simp[zGD,results,Tryz.results57,go_sem,c00,c01,c02,c03]) rfl ⟨rfl,?_⟩
 iterate 6 (refine Below.setCell ?_ (by first | exact Nat.le_refl _ | (simp;done)) _)
 exact HX2.out _
end Go.Proofs.YtbokdbaagacnlaaGreatDoor
namespace Go.Proofs.YtbokdbaagacnlaaGreatDoor
open Go.Lib
open Go.RowKit (wrap64)
def be4 (n:Int):List UInt8:=[UInt8.ofNat (n.toNat / 16777216),UInt8.ofNat (n.toNat / 65536),UInt8.ofNat (n.toNat / 256),UInt8.ofNat n.toNat]
def zH4 (b:ByteArray):List UInt8:=UInt8.ofNat b.size :: b.data.toList
mutual
def enc : Tree→List UInt8
 | .num _ n=>110 :: be4 n
 | .neg _ a=>126 :: enc a
 | .bin k p a b=>UInt8.ofNat k :: ((if k=47 then[UInt8.ofNat p] else[]) ++ enc a ++ enc b)
 | .ite _ a b c=>63 :: (enc a ++ enc b ++ enc c)
 | .meas p w m n=>109 :: UInt8.ofNat p :: (zH4 w ++ zH4 m ++ be4 n)
 | .probe p w ts=>112 :: UInt8.ofNat p :: (zH4 w ++ UInt8.ofNat ts.length :: encs ts)
def encs : List Tree→List UInt8
 | []=>[]
 | t :: ts=>enc t ++ encs ts
end
mutual
def size : Tree→Nat
 | .num _ _=>1
 | .neg _ a=>size a+1
 | .bin _ _ a b=>size a+size b+1
 | .ite _ a b c=>size a+size b+size c+1
 | .meas _ _ _ _=>1
 | .probe _ _ ts=>zCS ts+1
def zCS : List Tree→Nat
 | []=>0
 | t :: ts=>size t+zCS ts
end
mutual
def asks : Tree→List (Nat × ByteArray)
 | .num _ _=>[]
 | .neg _ a=>asks a
 | .bin _ _ a b=>asks a ++ asks b
 | .ite _ a b c=>asks a ++ asks b ++ asks c
 | .meas _ _ _ _=>[]
 | .probe p w ts=>(p,w) :: zAD ts
def zAD : List Tree→List (Nat × ByteArray)
 | []=>[]
 | t :: ts=>asks t ++ zAD ts
end
mutual
def zA5 : Tree→List (ByteArray × Int)
 | .num _ _=>[]
 | .neg _ a=>zA5 a
 | .bin _ _ a b=>zA5 a ++ zA5 b
 | .ite _ a b c=>zA5 a ++ zA5 b ++ zA5 c
 | .meas _ _ m n=>[(m,n)]
 | .probe _ _ ts=>zAY ts
def zAY : List Tree→List (ByteArray × Int)
 | []=>[]
 | t :: ts=>zA5 t ++ zAY ts
end
mutual
def bare : Tree→Tree
 | .num _ n=>.num 0 n
 | .neg _ a=>.neg 0 (bare a)
 | .bin k p a b=>.bin k (if k=47 then p else 0) (bare a) (bare b)
 | .ite _ a b c=>.ite 0 (bare a) (bare b) (bare c)
 | .meas p w m n=>.meas p w m n
 | .probe p w ts=>.probe p w (zFA ts)
def zFA : List Tree→List Tree
 | []=>[]
 | t :: ts=>bare t :: zFA ts
end
def zCN (b:ByteArray):Bool:=decide (zAX b 0=⟨97,0,b.size⟩)
def zC0 (k:Nat):Bool:=k == 43 || k == 45 || k == 42 || k == 60 || k == 62 || k == 61
mutual
def Fit : Tree→Prop
 | .num _ n=>0≤n∧n<1000000000
 | .neg _ a=>Fit a
 | .bin k p a b=>(zC0 k=true∨k=47)∧p<200∧Fit a∧Fit b
 | .ite _ a b c=>Fit a∧Fit b∧Fit c
 | .meas p w m n=>p<200∧zCN w=true∧w.size<256∧isMeasure w=true∧zCN m=true∧m.size<256∧0≤n∧n<1000000000
 | .probe p w ts=>p<200∧zCN w=true∧w.size<256∧isMeasure w=false∧ts.length<256∧zB8 ts
def zB8 : List Tree→Prop
 | []=>True
 | t :: ts=>Fit t∧zB8 ts
end
structure RS where
 rest:List UInt8
 parts:Int
 wrong:Bool
 mets:List ByteArray
 asks:List (Nat × ByteArray)
 spans:List (ByteArray × Int)
def RS.require (r:RS)(b:Bool):RS:={ r with wrong:=r.wrong || !b }
def RS.take (r:RS)(n:Nat):List UInt8 × RS:=
 if (r.require (decide (n≤r.rest.length))).wrong=true then(List.replicate n 0,r.require (decide (n≤r.rest.length)))
 else(r.rest.take n,{ r.require (decide (n≤r.rest.length)) with rest:=r.rest.drop n })
def RS.next (r:RS):UInt8 × RS:=((r.take 1).1.headD 0,(r.take 1).2)
def RS.place (r:RS):Nat × RS:=(r.next.1.toNat,r.next.2.require (decide (r.next.1.toNat<200)))
def zCP (l:List UInt8):Int:=l.foldl (fun n b=>256 * n+(b.toNat:Int)) 0
def RS.number (r:RS):Int × RS:=(zCP (r.take 4).1,(r.take 4).2.require (decide (zCP (r.take 4).1<1000000000)))
def RS.name (r:RS):ByteArray × RS:=
 let y:=r.next.2.take r.next.1.toNat
 (⟨y.1.toArray⟩,y.2.require (zCN ⟨y.1.toArray⟩))
def RS.measure (r:RS):Tree × RS:=
 let p:=r.place
 let k:=p.2.name
 let m:=(k.2.require (isMeasure k.1)).name
 let n:=m.2.number
 (.meas p.1 k.1 m.1 n.1,{ n.2 with mets:=zDG n.2.mets m.1,spans:=n.2.spans ++ [(m.1,n.1)] })
def iter (g:RS→Tree × RS):Nat→RS→List Tree × RS
 | 0,r=>([],r)
 | n+1,r=>((iter g n r).1 ++ [(g (iter g n r).2).1],(g (iter g n r).2).2)
def RS.begin (r:RS):RS:=({ r with parts:=wrap64 (r.parts+1) }).require (decide (wrap64 (r.parts+1)≤200))
def RS.probe (g:RS→Tree × RS)(r:RS):Tree × RS:=
 let p:=r.place
 let k:=p.2.name
 let q:=k.2.require (!isMeasure k.1)
 let c:=RS.next { q with asks:=q.asks ++ [(p.1,k.1)] }
 let a:=iter g c.1.toNat c.2
 (.probe p.1 k.1 a.1,a.2)
def RS.part : Nat→RS→Tree × RS
 | 0,r=>(.num 0 0,{ r with parts:=wrap64 (r.parts+1),wrong:=true })
 | f+1,r=>
  if r.begin.wrong=true then(.num 0 0,r.begin)
  else
   let o:=r.begin.next
   if o.1=110 then(.num 0 o.2.number.1,o.2.number.2)
   else if o.1=126 then let a:=RS.part f o.2;(.neg 0 a.1,a.2)
   else if o.1=47 then let a:=RS.part f o.2.place.2;let b:=RS.part f a.2;(.bin 47 o.2.place.1 a.1 b.1,b.2)
   else if o.1=63 then let a:=RS.part f o.2;let b:=RS.part f a.2;let c:=RS.part f b.2;(.ite 0 a.1 b.1 c.1,c.2)
   else if o.1=109 then o.2.measure
   else if o.1=112 then o.2.probe (RS.part f)
   else let a:=RS.part f (o.2.require (zC0 o.1.toNat));let b:=RS.part f a.2;(.bin o.1.toNat 0 a.1 b.1,b.2)
abbrev RS.part' (r:RS)(f:Nat):Tree × RS:=RS.part f r
/-! Wrong stays wrong;the parts grow. -/
theorem RS.require_wrong {r:RS}{b:Bool}(h:(r.require b).wrong=false):r.wrong=false∧b=true:=by
 simp[RS.require] at h
 exact h
theorem RS.require_ok (r:RS){b:Bool}(h:b=true):r.require b=r:=by
 subst h
 simp[RS.require]
def RS.Ok (r:RS):Prop:=r.wrong=false→0≤r.parts∧r.parts≤200
def RS.From (r r':RS):Prop:=r.Ok→r'.Ok∧(r'.wrong=false→r.wrong=false∧r.parts≤r'.parts)
theorem RS.From.refl (r:RS):r.From r:=fun h=>⟨h,fun h=>⟨h,Int.le_refl _⟩⟩
theorem RS.From.trans {a b c:RS}(h:a.From b)(k:b.From c):a.From c:=fun ha=>
 have h1:=h ha
 have h2:=k h1.1
 ⟨h2.1,fun hc=>⟨(h1.2 (h2.2 hc).1).1,Int.le_trans (h1.2 (h2.2 hc).1).2 (h2.2 hc).2⟩⟩
theorem RS.From.same {r r':RS}(hp:r'.parts=r.parts)(hw:r'.wrong=false→r.wrong=false):r.From r':=fun h=>⟨fun h'=>by rw[hp];exact h (hw h'),fun h'=>⟨hw h',Int.le_of_eq hp.symm⟩⟩
theorem RS.From.require (r:RS)(b:Bool):r.From (r.require b):=.same rfl fun h=>(RS.require_wrong h).1
theorem RS.From.mets (r:RS)(l:List ByteArray):r.From { r with mets:=l }:=.same rfl id
theorem RS.From.asks (r:RS)(l:List (Nat × ByteArray)):r.From { r with asks:=l }:=.same rfl id
theorem RS.From.take (r:RS)(n:Nat):r.From (r.take n).2:=by
 unfold RS.take
 split
 ·exact .require _ _
 ·exact .same rfl fun h=>(RS.require_wrong h).1
theorem RS.From.next (r:RS):r.From r.next.2:=.take r 1
theorem RS.From.place (r:RS):r.From r.place.2:=(RS.From.next r).trans (.require _ _)
theorem RS.From.number (r:RS):r.From r.number.2:=(RS.From.take r 4).trans (.require _ _)
theorem RS.From.name (r:RS):r.From r.name.2:=((RS.From.next r).trans (.take _ _)).trans (.require _ _)
theorem RS.From.measure (r:RS):r.From r.measure.2:=(((((RS.From.place r).trans (.name _)).trans (.require _ _)).trans (.name _)).trans (.number _)).trans (.same rfl id)
theorem RS.From.iter {g:RS→Tree × RS}(hg:∀ r:RS,r.From (g r).2):∀ (n:Nat) (r:RS),r.From (iter g n r).2
 | 0,r=>.refl r
 | n+1,r=>(RS.From.iter hg n r).trans (hg _)
theorem RS.From.probe {g:RS→Tree × RS}(hg:∀ r:RS,r.From (g r).2)(r:RS):r.From (r.probe g).2:=(((((RS.From.place r).trans (.name _)).trans (.require _ _)).trans (.asks _ _)).trans (.next _)).trans (.iter hg _ _)
theorem zHM {n:Int}(h0:0≤n)(h1:n≤400):wrap64 n=n:=by unfold wrap64;omega
theorem RS.begin_ok {r:RS}(hr:r.Ok)(h:r.begin.wrong=false):r.wrong=false∧r.begin.parts=r.parts+1∧0≤r.parts∧r.parts<200:=by
 have h1:=RS.require_wrong h
 have h2:r.wrong=false:=h1.1
 have h3:=hr h2
 have h4:=of_decide_eq_true h1.2
 rw[zHM (by omega) (by omega)] at h4
 refine⟨h2,?_,h3.1,by omega⟩
 show wrap64 (r.parts+1)=_
 rw[zHM (by omega) (by omega)]
theorem RS.From.begin (r:RS):r.From r.begin:=fun hr=>⟨fun h=>by have:=RS.begin_ok hr h;omega,fun h=>by have:=RS.begin_ok hr h;exact⟨this.1,by omega⟩⟩
theorem RS.From.part : ∀ (f:Nat) (r:RS),r.From (r.part' f).2
 | 0,r=>fun _=>⟨fun h=>(by cases h),fun h=>(by cases h)⟩
 | f+1,r=>by
  refine(RS.From.begin r).trans ?_
  have ih:=RS.From.part f
  unfold RS.part' RS.part
  unfold RS.part' at ih
  dsimp only
  (repeat' split) <;> first
   | exact .refl _
   | exact(RS.From.next _).trans (.number _)
   | exact(RS.From.next _).trans (ih _)
   | exact(((RS.From.next _).trans (.place _)).trans (ih _)).trans (ih _)
   | exact(((RS.From.next _).trans (ih _)).trans (ih _)).trans (ih _)
   | exact(RS.From.next _).trans (.measure _)
   | exact(RS.From.next _).trans (.probe ih _)
   | exact(((RS.From.next _).trans (.require _ _)).trans (ih _)).trans (ih _)
theorem RS.From.wrong {r r':RS}(h:r.From r')(hr:r.Ok)(hw:r.wrong=true):r'.wrong=true:=by
 cases e:r'.wrong with
 | true=>rfl
 | false=>rw[((h hr).2 e).1] at hw;cases hw
section
variable {rest:List UInt8} {k:Int} {ms:List ByteArray} {aq:List (Nat × ByteArray)} {sp:List (ByteArray × Int)}
theorem RS.take_app (l:List UInt8):RS.take ⟨l ++ rest,k,false,ms,aq,sp⟩ l.length=(l,⟨rest,k,false,ms,aq,sp⟩):=by
 simp[RS.take,RS.require]
theorem RS.next_cons (b:UInt8):RS.next ⟨b :: rest,k,false,ms,aq,sp⟩=(b,⟨rest,k,false,ms,aq,sp⟩):=by
 simp[RS.next,RS.take,RS.require]
theorem RS.place_cons {p:Nat}(hp:p<200):RS.place ⟨UInt8.ofNat p :: rest,k,false,ms,aq,sp⟩=(p,⟨rest,k,false,ms,aq,sp⟩):=by
 have e:(UInt8.ofNat p).toNat=p:=by simp;omega
 unfold RS.place
 rw[RS.next_cons]
 simp only[e]
 rw[RS.require_ok _ (by simpa using hp)]
theorem num_be4 {n:Int}(h0:0≤n)(h1:n<1000000000):zCP (be4 n)=n:=by
 obtain⟨m,rfl⟩:=Int.eq_ofNat_of_zero_le h0
 simp[zCP,be4]
 omega
theorem RS.number_be4 {n:Int}(h0:0≤n)(h1:n<1000000000):RS.number ⟨be4 n ++ rest,k,false,ms,aq,sp⟩=(n,⟨rest,k,false,ms,aq,sp⟩):=by
 have e:RS.take ⟨be4 n ++ rest,k,false,ms,aq,sp⟩ 4=(be4 n,⟨rest,k,false,ms,aq,sp⟩):=RS.take_app (be4 n)
 unfold RS.number
 rw[e]
 simp only[num_be4 h0 h1]
 rw[RS.require_ok _ (by simpa using h1)]
theorem RS.name_text {b:ByteArray}(hn:zCN b=true)(hb:b.size<256):RS.name ⟨zH4 b ++ rest,k,false,ms,aq,sp⟩=(b,⟨rest,k,false,ms,aq,sp⟩):=by
 have e:(UInt8.ofNat b.size).toNat=b.data.toList.length:=by
  have:b.data.toList.length=b.size:=by simp
  simp
  omega
 have e2:(⟨b.data.toList.toArray⟩:ByteArray)=b:=by simp
 unfold RS.name zH4
 rw[List.cons_append,RS.next_cons]
 simp only[e,RS.take_app,e2]
 rw[RS.require_ok _ hn]
theorem zNZ (g:RS→Tree × RS):∀ (n:Nat) (r:RS),iter g (n+1) r=((g r).1 :: (iter g n (g r).2).1,(iter g n (g r).2).2)
 | 0,r=>by simp[iter]
 | n+1,r=>by
  have ih:=zNZ g n r
  rw[iter,ih]
  simp[iter]
theorem RS.begin_step (hk:0≤k)(h2:k<200)(l:List UInt8):RS.begin ⟨l,k,false,ms,aq,sp⟩=⟨l,k+1,false,ms,aq,sp⟩:=by
 unfold RS.begin
 simp only[zHM (n:=k+1) (by omega) (by omega)]
 rw[RS.require_ok _ (by simp;omega)]
end
theorem zQD : ∀ t:Tree,1≤size t:=by intro t;cases t <;> simp[size]
theorem zH8 (ms:List ByteArray)(a b:List ByteArray):zAT (zAT ms a) b=zAT ms (a ++ b):=(zCB ms a b).symm
set_option maxHeartbeats 1000000 in
mutual
theorem zEY : ∀ (t:Tree) (f:Nat) (rest:List UInt8) (k:Int) (ms:List ByteArray) (aq:List (Nat × ByteArray)) (sp:List (ByteArray × Int)),Fit t→0≤k→k+size t≤200→200≤k+f →
  RS.part f ⟨enc t ++ rest,k,false,ms,aq,sp⟩=(bare t,⟨rest,k+size t,false,zAT ms (mets t),aq ++ asks t,sp ++ zA5 t⟩)
 | t,0,rest,k,ms,aq,sp,hf,h0,h1,h2=>by have:=zQD t;omega
 | .num p n,f+1,rest,k,ms,aq,sp,hf,h0,h1,h2=>by
  simp only[Fit] at hf
  simp only[size] at h1
  rw[RS.part,RS.begin_step h0 (by omega)]
  simp[enc,RS.next_cons,RS.number_be4 hf.1 hf.2,bare,size,mets,asks,zA5,zAT]
 | .neg p a,f+1,rest,k,ms,aq,sp,hf,h0,h1,h2=>by
  simp only[Fit] at hf
  simp only[size] at h1
  rw[RS.part,RS.begin_step h0 (by omega)]
  have ih:=zEY a f rest (k+1) ms aq sp hf (by omega) (by omega) (by omega)
  simp[enc,RS.next_cons,ih,bare,size,mets,asks,zA5]
  omega
 | .ite p a b c,f+1,rest,k,ms,aq,sp,hf,h0,h1,h2=>by
  simp only[Fit] at hf
  simp only[size] at h1
  rw[RS.part,RS.begin_step h0 (by omega)]
  have i1:=zEY a f (enc b ++ (enc c ++ rest)) (k+1) ms aq sp hf.1 (by omega) (by omega) (by omega)
  have i2:=zEY b f (enc c ++ rest) (k+1+size a) (zAT ms (mets a)) (aq ++ asks a) (sp ++ zA5 a) hf.2.1 (by omega) (by omega) (by omega)
  have i3:=zEY c f rest (k+1+size a+size b) (zAT ms (mets a ++ mets b)) (aq ++ (asks a ++ asks b)) (sp ++ (zA5 a ++ zA5 b)) hf.2.2 (by omega) (by omega) (by omega)
  simp only[enc,List.cons_append,List.append_assoc,RS.next_cons,Bool.false_eq_true,if_false]
  simp[i1,i2,i3,bare,size,mets,asks,zA5,zH8]
  omega
 | .bin j p a b,f+1,rest,k,ms,aq,sp,hf,h0,h1,h2=>by
  simp only[Fit] at hf
  simp only[size] at h1
  rw[RS.part,RS.begin_step h0 (by omega)]
  have i1:=zEY a f (enc b ++ rest) (k+1) ms aq sp hf.2.2.1 (by omega) (by omega) (by omega)
  have i2:=zEY b f rest (k+1+size a) (zAT ms (mets a)) (aq ++ asks a) (sp ++ zA5 a) hf.2.2.2 (by omega) (by omega) (by omega)
  rcases hf.1 with hj | rfl
  ·have hj2:=hj
   simp[zC0] at hj
   have e:(UInt8.ofNat j).toNat=j:=by simp;omega
   have q:¬ UInt8.ofNat j=110∧¬ UInt8.ofNat j=126∧¬ UInt8.ofNat j=47∧¬ UInt8.ofNat j=63∧¬ UInt8.ofNat j=109∧¬ UInt8.ofNat j=112:=by
    rcases hj with((((rfl | rfl) | rfl) | rfl) | rfl) | rfl <;> decide
   have hj47:j≠47:=by omega
   simp only[enc,List.cons_append,List.append_assoc,RS.next_cons,Bool.false_eq_true,if_false,hj47,List.nil_append,q.1,q.2.1,q.2.2.1,q.2.2.2.1,q.2.2.2.2.1,q.2.2.2.2.2,e]
   rw[RS.require_ok _ hj2]
   simp[i1,i2,bare,size,mets,asks,zA5,zH8,hj47]
   omega
  ·simp only[enc,List.cons_append,List.append_assoc,RS.next_cons,Bool.false_eq_true,if_false,if_true,List.nil_append]
   simp[RS.place_cons hf.2.1,i1,i2,bare,size,mets,asks,zA5,zH8]
   omega
 | .meas p w m n,f+1,rest,k,ms,aq,sp,hf,h0,h1,h2=>by
  simp only[Fit] at hf
  simp only[size] at h1
  rw[RS.part,RS.begin_step h0 (by omega)]
  obtain⟨f1,f2,f3,f4,f5,f6,f7,f8⟩:=hf
  simp only[enc,List.cons_append,List.append_assoc,RS.next_cons,Bool.false_eq_true,if_false]
  simp[RS.measure,RS.place_cons f1,RS.name_text f2 f3,RS.require_ok _ f4,RS.name_text f5 f6,RS.number_be4 f7 f8,bare,size,mets,asks,zA5,zNR]
 | .probe p w ts,f+1,rest,k,ms,aq,sp,hf,h0,h1,h2=>by
  simp only[Fit] at hf
  simp only[size] at h1
  rw[RS.part,RS.begin_step h0 (by omega)]
  obtain⟨f1,f2,f3,f4,f5,f6⟩:=hf
  have ih:=zNQ ts f rest (k+1) ms (aq ++ [(p,w)]) sp f6 (by omega) (by omega) (by omega)
  have e:(UInt8.ofNat ts.length).toNat=ts.length:=by simp;omega
  simp only[enc,List.cons_append,List.append_assoc,RS.next_cons,Bool.false_eq_true,if_false]
  simp[RS.probe,RS.place_cons f1,RS.name_text f2 f3,RS.require_ok _ (b:=!isMeasure w) (by simp[f4]),RS.next_cons]
  rw[Nat.mod_eq_of_lt f5,ih]
  simp[bare,size,mets,asks,zA5]
  omega
theorem zNQ : ∀ (ts:List Tree) (f:Nat) (rest:List UInt8) (k:Int) (ms:List ByteArray) (aq:List (Nat × ByteArray)) (sp:List (ByteArray × Int)),zB8 ts→0≤k→k+zCS ts≤200→200≤k+f →
  iter (RS.part f) ts.length ⟨encs ts ++ rest,k,false,ms,aq,sp⟩=(zFA ts,⟨rest,k+zCS ts,false,zAT ms (zAL ts),aq ++ zAD ts,sp ++ zAY ts⟩)
 | [],f,rest,k,ms,aq,sp,hf,h0,h1,h2=>by simp[iter,encs,zFA,zCS,zAL,zAD,zAY,zAT]
 | t :: ts,f,rest,k,ms,aq,sp,hf,h0,h1,h2=>by
  simp only[zB8] at hf
  simp only[zCS] at h1
  have i1:=zEY t f (encs ts ++ rest) k ms aq sp hf.1 (by omega) (by omega) (by omega)
  have i2:=zNQ ts f rest (k+size t) (zAT ms (mets t)) (aq ++ asks t) (sp ++ zA5 t) hf.2 (by omega) (by omega) (by omega)
  rw[List.length_cons,zNZ]
  simp only[encs,List.append_assoc,i1,i2,zFA,zCS,zAL,zAD,zAY,zH8]
  simp
  omega
end
end Go.Proofs.YtbokdbaagacnlaaGreatDoor
