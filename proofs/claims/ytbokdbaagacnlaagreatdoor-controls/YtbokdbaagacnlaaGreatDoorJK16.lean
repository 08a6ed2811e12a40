/-
 errors.As AT A HoldError, WALKED.
-/
import Derived.Test.YtbokdbaagacnlaaGreatDoorJK15
import Derived.Test.YtbokdbaagacnlaaGreatDoorJK1
import Derived.Deep.QuietTactic
import Derived.BigQuiet
namespace Go.Proofs.YtbokdbaagacnlaaGreatDoor
open Go.RowKit Go.Extern.Stop Go.Stop Go.Extern
set_option maxRecDepth 1000000 in
set_option maxHeartbeats 4000000 in
theorem as_hit_O (hb ho : Nat) (a t : Addr) (old : Value) (w : World) (hg : w.cell? ⟨8, 0, none⟩ = some (.iface 315 (.agg #[.pointer (some ⟨18, 69, none⟩)]))) (hE : w.cell? ⟨hb, ho + 1, none⟩ = some (.iface 200 (.pointer (some a)))) (ht0 : w.cell? t = some old) (hf0 : w.frozen? t = false) :
  Calls Tryz.prog 86 #[.iface 159 (.pointer (some ⟨hb, ho, none⟩)), .iface 206 (.pointer (some t))] w fun ev w' => ev = .returned (.bool true) ∧ w' = ((((w.alloc (.cells #[.pointer (some t)] 206)).alloc (.cells #[.pointer (some ⟨18, 206, none⟩), .pointer (some ⟨w.heap.size, 0, none⟩), .int .u64 150] 251)).alloc (.cells #[.pointer (some ⟨18, 206, none⟩), .pointer (some ⟨w.heap.size, 0, none⟩), .int .u64 150] 251)).alloc (.cells #[.pointer (some a)] 200)).setCell t (.pointer (some a)) := by
 have x1 := @run_callFunc_extern Tryz.prog 105 _ (fun args => ReflectliteValue.unpack (args.getD 0 (.tuple #[]))) Tryz.func105 (by kernel_rfl) (by kernel_rfl) (by kernel_rfl) (by kernel_rfl)
 have x2 := @run_callFunc_extern Tryz.prog 106 _ (ReflectliteValue.methodAny (ReflectliteValue.valueError "reflectlite.Value.Type" 0) (fun t _ _ _ => ReflectliteType.toType t)) Tryz.func106 (by kernel_rfl) (by kernel_rfl) (by kernel_rfl) (by kernel_rfl)
 have x3 := @run_callFunc_extern Tryz.prog 107 _ (ReflectliteValue.method (ReflectliteValue.valueError "reflectlite.Value.IsNil" 0) ReflectliteValue.isNil) Tryz.func107 (by kernel_rfl) (by kernel_rfl) (by kernel_rfl) (by kernel_rfl)
 have x4 := @run_callFunc_extern Tryz.prog 269 _ (ReflectliteType.abiMethod fun t => do pure (.int .u8 (← Rtype.kind t))) Tryz.func269 (by kernel_rfl) (by kernel_rfl) (by kernel_rfl) (by kernel_rfl)
 have x5 := @run_callFunc_extern Tryz.prog 294 _ (ReflectliteType.method ReflectliteType.elem) Tryz.func294 (by kernel_rfl) (by kernel_rfl) (by kernel_rfl) (by kernel_rfl)
 have x6 := @run_callFunc_extern Tryz.prog 295 _ (ReflectliteType.relation "Implements" ReflectliteType.implements_) Tryz.func295 (by kernel_rfl) (by kernel_rfl) (by kernel_rfl) (by kernel_rfl)
 have x7 := @run_callFunc_extern Tryz.prog 109 _ ReflectliteType.typeOf Tryz.func109 (by kernel_rfl) (by kernel_rfl) (by kernel_rfl) (by kernel_rfl)
 have x8 := @run_callFunc_extern Tryz.prog 292 _ (ReflectliteType.relation "AssignableTo" ReflectliteType.assignableTo) Tryz.func292 (by kernel_rfl) (by kernel_rfl) (by kernel_rfl) (by kernel_rfl)
 have tH := Tryz.typeOfH
 have tE := Tryz.typeOfO
 have mA := Tryz.methodAssignableTo
 have aH := Tryz.assignHO
 have aE := Tryz.assignOO
 have f6 := Tryz.valueOf2O
 have f7 := Tryz.type2O
 have mK := Tryz.methodKind
 have mE := Tryz.methodElem
 have mI := Tryz.methodImplements
 have mU := Tryz.methodUnwrap
 have k1 := Tryz.kind2O
 have k2 := Tryz.kind1O
 have e27 := Tryz.elem2O
 have i25 := Tryz.implementsO
 have nH := Tryz.noAsH
 have uH := Tryz.hasUnwrapH
 have n8 := Tryz.isNil2O ⟨w.heap.size, 0, none⟩ t ((w.alloc (.cells #[.pointer (some t)] 206)).alloc (.cells #[.pointer (some ⟨18, 206, none⟩), .pointer (some ⟨w.heap.size, 0, none⟩), .int .u64 150] 251)) (by simp)
 have hlt : 8 < w.heap.size := World.block_lt_of_cell? _ _ hg
 have hbl : hb < w.heap.size := World.block_lt_of_cell? _ _ hE
 have hg2 : ((w.alloc (.cells #[.pointer (some t)] 206)).alloc (.cells #[.pointer (some ⟨18, 206, none⟩), .pointer (some ⟨w.heap.size, 0, none⟩), .int .u64 150] 251)).cell? ⟨8, 0, none⟩ = some (.iface 315 (.agg #[.pointer (some ⟨18, 69, none⟩)])) := by
  rw [World.cell?_alloc_lt _ _ ⟨8, 0, none⟩ (by simp; omega), World.cell?_alloc_lt _ _ ⟨8, 0, none⟩ hlt]; exact hg
 have x9 := @run_callFunc_extern Tryz.prog 149 _ (ReflectliteValue.method (ReflectliteValue.valueError "reflectlite.Value.Elem" 0) ReflectliteValue.elem) Tryz.func149 (by kernel_rfl) (by kernel_rfl) (by kernel_rfl) (by kernel_rfl)
 have x10 := @run_callFunc_extern Tryz.prog 150 _ ReflectliteValue.set Tryz.func150 (by kernel_rfl) (by kernel_rfl) (by kernel_rfl) (by kernel_rfl)
 have v25 := Tryz.valueOf1O
 have htl : t.block < w.heap.size := World.block_lt_of_cell? _ _ ht0
 have hE3 : (((w.alloc (.cells #[.pointer (some t)] 206)).alloc (.cells #[.pointer (some ⟨18, 206, none⟩), .pointer (some ⟨w.heap.size, 0, none⟩), .int .u64 150] 251)).alloc (.cells #[.pointer (some ⟨18, 206, none⟩), .pointer (some ⟨w.heap.size, 0, none⟩), .int .u64 150] 251)).cell? ⟨hb, ho + 1, none⟩ = some (.iface 200 (.pointer (some a))) := by
  rw [World.cell?_alloc_lt _ _ ⟨hb, ho + 1, none⟩ (by simp; omega), World.cell?_alloc_lt _ _ ⟨hb, ho + 1, none⟩ (by simp; omega), World.cell?_alloc_lt _ _ ⟨hb, ho + 1, none⟩ hbl]; exact hE
 have el := Tryz.elemV2O ⟨w.heap.size, 0, none⟩ t (((w.alloc (.cells #[.pointer (some t)] 206)).alloc (.cells #[.pointer (some ⟨18, 206, none⟩), .pointer (some ⟨w.heap.size, 0, none⟩), .int .u64 150] 251)).alloc (.cells #[.pointer (some ⟨18, 206, none⟩), .pointer (some ⟨w.heap.size, 0, none⟩), .int .u64 150] 251)) (by rw [World.cell?_alloc_lt _ _ ⟨w.heap.size, 0, none⟩ (by simp; omega)]; simp)
 have st := Tryz.set1O t ⟨w.heap.size + 1 + 1 + 1, 0, none⟩ a old ((((w.alloc (.cells #[.pointer (some t)] 206)).alloc (.cells #[.pointer (some ⟨18, 206, none⟩), .pointer (some ⟨w.heap.size, 0, none⟩), .int .u64 150] 251)).alloc (.cells #[.pointer (some ⟨18, 206, none⟩), .pointer (some ⟨w.heap.size, 0, none⟩), .int .u64 150] 251)).alloc (.cells #[.pointer (some a)] 200))
  (by rw [World.cell?_alloc_at _ _ _ _ (by simp)]; rfl)
  (by rw [World.cell?_alloc_lt _ _ t (by simp; omega), World.cell?_alloc_lt _ _ t (by simp; omega), World.cell?_alloc_lt _ _ t (by simp; omega), World.cell?_alloc_lt _ _ t htl]; exact ht0)
  (by rw [World.frozen?_alloc_old _ _ t (by simp; omega), World.frozen?_alloc_old _ _ t (by simp; omega), World.frozen?_alloc_old _ _ t (by simp; omega), World.frozen?_alloc_old _ _ t (Nat.ne_of_lt htl)]; exact hf0)
 go_enter Tryz.func86, Tryz.ntmps86
 go_wp2
 refine wp_loop_rounds 2 ?_
 rw [rounds_succ]
 go_wp2
 rw [rounds_succ]
 go_wp2
 go_ret
 exact ⟨rfl, rfl⟩
end Go.Proofs.YtbokdbaagacnlaaGreatDoor
namespace Go.Proofs.YtbokdbaagacnlaaGreatDoor
open Go.RowKit Go.Extern.Stop Go.Stop Go.Extern
/-! errors.Is -/
noncomputable def cmpEntry : Array Value → Sem Value := ReflectliteType.method fun t => do Rtype.noPackHeld "Comparable" t; pure (.bool (← typeInfo t).comparable)
theorem Tryz.isComparable (w : World) : (cmpEntry #[.agg #[.pointer (some ⟨18, 416, none⟩)]]).run Tryz.prog w = .ok (.bool true) w := by kernel_rfl
theorem Tryz.isCompE : (Tryz.prog.info? 416).map (·.comparable) = some true := by kernel_rfl
theorem Tryz.isSizeE : (Tryz.prog.info? 435).map (·.size) = some 1 := by kernel_rfl
set_option maxRecDepth 1000000 in
set_option maxHeartbeats 4000000 in
theorem is_hit (pb po : Nat) (b : Addr) (w : World) (h1 : w.cell? ⟨pb, po + 1, none⟩ = some (.iface 416 (.pointer (some b)))) :
  Calls Tryz.prog 87 #[.iface 159 (.pointer (some ⟨pb, po, none⟩)), .iface 416 (.pointer (some b))] w fun e w' => e = .returned (.bool true) ∧ w' = w := by
 obtain ⟨i, hi, hcmp⟩ := Option.map_eq_some_iff.1 Tryz.isCompE
 obtain ⟨j, hj, hjs⟩ := Option.map_eq_some_iff.1 Tryz.isSizeE
 have x1 := @run_callFunc_extern Tryz.prog 109 _ ReflectliteType.typeOf Tryz.func109 (by kernel_rfl) (by kernel_rfl) (by kernel_rfl) (by kernel_rfl)
 have x2 := @run_callFunc_extern Tryz.prog 293 _ cmpEntry Tryz.func293 (by kernel_rfl) (by kernel_rfl) (by kernel_rfl) (by kernel_rfl)
 have tT := Tryz.typeOfE
 have cT := Tryz.isComparable
 have mR := Tryz.methodComparable
 have nW := Tryz.noIsH
 have uW := Tryz.hasUnwrapH
 have mU := Tryz.methodUnwrap
 have heq := run_eql_iface_ptr_same (P := Tryz.prog) w b Tryz.underlying69 Tryz.underlying416 hi hcmp hj
 have hty := run_eql_iface_types (P := Tryz.prog) 159 416 (.pointer (some ⟨pb, po, none⟩)) (.pointer (some b)) Tryz.underlying69 (by decide) w
 go_enter Tryz.func87, Tryz.ntmps87
 go_wp2
 refine wp_loop_rounds 2 ?_
 rw [rounds_succ]
 go_wp2
 rw [rounds_succ]
 go_wp2
 go_ret
 exact ⟨rfl, rfl⟩
set_option maxRecDepth 1000000 in
set_option maxHeartbeats 4000000 in
theorem is_miss (pb po : Nat) (b c : Addr) (hne : b ≠ c) (w : World) {cb cc : Array Value} {tb tc : TypeId} (hb : w.heap[b.block]? = some (.cells cb tb (0, 0))) (hc : w.heap[c.block]? = some (.cells cc tc (0, 0))) (h1 : w.cell? ⟨pb, po + 1, none⟩ = some (.iface 416 (.pointer (some b)))) :
  Calls Tryz.prog 87 #[.iface 159 (.pointer (some ⟨pb, po, none⟩)), .iface 416 (.pointer (some c))] w fun e w' => e = .returned (.bool false) ∧ w' = w := by
 obtain ⟨i, hi, hcmp⟩ := Option.map_eq_some_iff.1 Tryz.isCompE
 obtain ⟨j, hj, hjs⟩ := Option.map_eq_some_iff.1 Tryz.isSizeE
 have x1 := @run_callFunc_extern Tryz.prog 109 _ ReflectliteType.typeOf Tryz.func109 (by kernel_rfl) (by kernel_rfl) (by kernel_rfl) (by kernel_rfl)
 have x2 := @run_callFunc_extern Tryz.prog 293 _ cmpEntry Tryz.func293 (by kernel_rfl) (by kernel_rfl) (by kernel_rfl) (by kernel_rfl)
 have tT := Tryz.typeOfE
 have cT := Tryz.isComparable
 have mR := Tryz.methodComparable
 have nW := Tryz.noIsH
 have uW := Tryz.hasUnwrapH
 have mU := Tryz.methodUnwrap
 have nE := Tryz.noIsE
 have uE := Tryz.noUnwrapE
 have vE := Tryz.noUnwrapsE
 have heq := run_eql_iface_ptr_other (P := Tryz.prog) w Tryz.underlying69 Tryz.underlying416 hi hcmp hj (by rw [hjs]; decide) hne hb hc
 have hty := run_eql_iface_types (P := Tryz.prog) 159 416 (.pointer (some ⟨pb, po, none⟩)) (.pointer (some c)) Tryz.underlying69 (by decide) w
 go_enter Tryz.func87, Tryz.ntmps87
 go_wp2
 refine wp_loop_rounds 2 ?_
 rw [rounds_succ]
 go_wp2
 rw [rounds_succ]
 go_wp2
 go_ret
 exact ⟨rfl, rfl⟩
end Go.Proofs.YtbokdbaagacnlaaGreatDoor
namespace Go.Proofs.YtbokdbaagacnlaaGreatDoor
open Go.RowKit Go.Extern.Stop Go.Stop Go.Extern
def EType (w : World) : Prop := w.cell? ⟨8, 0, none⟩ = some (.iface 315 (.agg #[.pointer (some ⟨18, 69, none⟩)]))
theorem cellB {w w' : World} (hb : Below w.heap.size w w') {a : Addr} {v : Value} (hc : w.cell? a = some v) : w'.cell? a = some v := (hb.cell (World.block_lt_of_cell? w a hc)).trans hc
theorem EType.below {w w' : World} (h : EType w) (hb : Below w.heap.size w w') : EType w' := cellB hb h
theorem Tryz.compP : (Tryz.prog.info? 199).map (·.comparable) = some true := by kernel_rfl
theorem Tryz.sizeP : (Tryz.prog.info? 205).map (·.size) = some 1 := by kernel_rfl
theorem Tryz.compO : (Tryz.prog.info? 200).map (·.comparable) = some true := by kernel_rfl
theorem Tryz.sizeO : (Tryz.prog.info? 270).map (·.size) = some 1 := by kernel_rfl
theorem Tryz.assert64 (v : Value) (xT : TypeId) (w : World) : (Instr.typeAssert (.iface 2 v) xT 2 true).run Tryz.prog w = .ok (.tuple #[v, .bool true]) w := by kernel_rfl
def toldH (e p n : Int) : Value := .agg #[.int .i64 e, .int .i64 p, .int .i64 n, .string { data := #[] }]
set_option maxRecDepth 1000000 in
set_option maxHeartbeats 1000000 in
theorem hold_divide (hb : Nat) (n : Int) (a : Addr) (w : World) (hg : EType w) (h0 : w.cell? ⟨hb, 0, none⟩ = some (.int .i64 n)) (h1 : w.cell? ⟨hb, 1, none⟩ = some (.iface 416 (.pointer (some a)))) (h5 : w.cell? ⟨3, 0, none⟩ = some (.iface 416 (.pointer (some a)))) :
  Calls Tryz.prog 57 #[.pointer (some ⟨hb, 0, none⟩)] w fun e w' => e = .returned (toldH 8 n 0) ∧ Below w.heap.size w w' := by
 have hlg : 8 < w.heap.size := World.block_lt_of_cell? _ _ hg
 have hlb : hb < w.heap.size := World.block_lt_of_cell? _ _ h0
 obtain ⟨i, hi, hcmp⟩ := Option.map_eq_some_iff.1 Tryz.isCompE
 obtain ⟨j, hj, hjs⟩ := Option.map_eq_some_iff.1 Tryz.isSizeE
 have heq := fun W => run_eql_iface_ptr_same (P := Tryz.prog) W a Tryz.underlying69 Tryz.underlying416 hi hcmp hj
 clear hi hcmp hj hjs
 have hl5 : 3 < w.heap.size := World.block_lt_of_cell? _ _ h5
 go_enter Tryz.func57, Tryz.ntmps57
 go_wp2_with fail
 refine (as_miss_PE hb 0 a _ _ ?_ ?_).mono ?_
 ·exact cellB (w := w) (by repeat (first | exact Below.refl _ _ | refine Below.setCell ?_ (by first | exact Nat.le_refl _ | (simp; done) | (simp; omega)) _ | refine Below.alloc ?_ (by first | exact Nat.le_refl _ | (simp; done) | (simp; omega)) _)) hg
 ·exact cellB (w := w) (by repeat (first | exact Below.refl _ _ | refine Below.setCell ?_ (by first | exact Nat.le_refl _ | (simp; done) | (simp; omega)) _ | refine Below.alloc ?_ (by first | exact Nat.le_refl _ | (simp; done) | (simp; omega)) _)) h1
 rintro e w' ⟨rfl, rfl⟩
 go_wp2_with fail
 refine (as_miss_OE hb 0 a _ _ ?_ ?_).mono ?_
 ·exact cellB (w := w) (by repeat (first | exact Below.refl _ _ | refine Below.setCell ?_ (by first | exact Nat.le_refl _ | (simp; done) | (simp; omega)) _ | refine Below.alloc ?_ (by first | exact Nat.le_refl _ | (simp; done) | (simp; omega)) _)) hg
 ·exact cellB (w := w) (by repeat (first | exact Below.refl _ _ | refine Below.setCell ?_ (by first | exact Nat.le_refl _ | (simp; done) | (simp; omega)) _ | refine Below.alloc ?_ (by first | exact Nat.le_refl _ | (simp; done) | (simp; omega)) _)) h1
 rintro e w1 ⟨rfl, hw1⟩
 have HX : Hid (Below w.heap.size w w1) := by
  show Below w.heap.size w w1
  rw [hw1]
  repeat (first | exact Below.refl _ _ | refine Below.setCell ?_ (by first | exact Nat.le_refl _ | (simp; done) | (simp; omega)) _ | refine Below.alloc ?_ (by first | exact Nat.le_refl _ | (simp; done) | (simp; omega)) _)
 have HX2 : Hid (∀ n, Below w.heap.size w (w1.drewN n)) := fun n => ⟨HX.out.os, HX.out.tape, HX.out.output, HX.out.size, HX.out.block⟩
 have c00 : w1.cell? ⟨w.heap.size, 0, none⟩ = some (.int .i64 0) := by rw [hw1]; go_simp
 have z00 : w1.frozen? ⟨w.heap.size, 0, none⟩ = false := by rw [hw1]; go_simp
 have c01 : w1.cell? ⟨w.heap.size, 1, none⟩ = some (.int .i64 0) := by rw [hw1]; go_simp
 have z01 : w1.frozen? ⟨w.heap.size, 1, none⟩ = false := by rw [hw1]; go_simp
 have c02 : w1.cell? ⟨w.heap.size, 2, none⟩ = some (.int .i64 0) := by rw [hw1]; go_simp
 have z02 : w1.frozen? ⟨w.heap.size, 2, none⟩ = false := by rw [hw1]; go_simp
 have c03 : w1.cell? ⟨w.heap.size, 3, none⟩ = some (.string { data := #[] }) := by rw [hw1]; go_simp
 have z03 : w1.frozen? ⟨w.heap.size, 3, none⟩ = false := by rw [hw1]; go_simp
 have c10 : w1.cell? ⟨w.heap.size + 1, 0, none⟩ = some (.int .i64 99) := by rw [hw1]; go_simp
 have z10 : w1.frozen? ⟨w.heap.size + 1, 0, none⟩ = false := by rw [hw1]; go_simp
 have c11 : w1.cell? ⟨w.heap.size + 1, 1, none⟩ = some (.int .i64 n) := by rw [hw1]; go_simp
 have z11 : w1.frozen? ⟨w.heap.size + 1, 1, none⟩ = false := by rw [hw1]; go_simp
 have c12 : w1.cell? ⟨w.heap.size + 1, 2, none⟩ = some (.int .i64 0) := by rw [hw1]; go_simp
 have z12 : w1.frozen? ⟨w.heap.size + 1, 2, none⟩ = false := by rw [hw1]; go_simp
 have c13 : w1.cell? ⟨w.heap.size + 1, 3, none⟩ = some (.string { data := #[] }) := by rw [hw1]; go_simp
 have z13 : w1.frozen? ⟨w.heap.size + 1, 3, none⟩ = false := by rw [hw1]; go_simp
 clear hw1
 have hE := cellB HX.out h1
 have hE5 := cellB HX.out h5
 go_wp2_with fail
 go_quiet (first | (go_at_call 87; refine Calls.quiet_of_same (is_hit hb 0 a _ ?_); exact hE))
 go_wp2
 refine bodyPost_ret (v := toldH 8 n 0) (by simp [toldH, results, Tryz.results57, go_sem, c00, c01, c02, c03]) rfl ⟨rfl, ?_⟩
 iterate 5 (refine Below.setCell ?_ (by first | exact Nat.le_refl _ | (simp; done)) _)
 exact HX2.out _
set_option maxRecDepth 1000000 in
set_option maxHeartbeats 1000000 in
theorem hold_failed (hb : Nat) (n : Int) (a : Addr) (w : World) (hg : EType w) (h0 : w.cell? ⟨hb, 0, none⟩ = some (.int .i64 n)) (h1 : w.cell? ⟨hb, 1, none⟩ = some (.iface 200 (.pointer (some a)))) :
  Calls Tryz.prog 57 #[.pointer (some ⟨hb, 0, none⟩)] w fun e w' => e = .returned (toldH 10 n 0) ∧ Below w.heap.size w w' := by
 have hlg : 8 < w.heap.size := World.block_lt_of_cell? _ _ hg
 have hlb : hb < w.heap.size := World.block_lt_of_cell? _ _ h0
 obtain ⟨i, hi, hcmp⟩ := Option.map_eq_some_iff.1 Tryz.compO
 obtain ⟨j, hj, hjs⟩ := Option.map_eq_some_iff.1 Tryz.sizeO
 have heq := fun W => run_eql_iface_ptr_same (P := Tryz.prog) W a Tryz.underlying69 Tryz.underlying200 hi hcmp hj
 clear hi hcmp hj hjs
 go_enter Tryz.func57, Tryz.ntmps57
 go_wp2_with fail
 refine (as_miss_PO hb 0 a _ _ ?_ ?_).mono ?_
 ·exact cellB (w := w) (by repeat (first | exact Below.refl _ _ | refine Below.setCell ?_ (by first | exact Nat.le_refl _ | (simp; done) | (simp; omega)) _ | refine Below.alloc ?_ (by first | exact Nat.le_refl _ | (simp; done) | (simp; omega)) _)) hg
 ·exact cellB (w := w) (by repeat (first | exact Below.refl _ _ | refine Below.setCell ?_ (by first | exact Nat.le_refl _ | (simp; done) | (simp; omega)) _ | refine Below.alloc ?_ (by first | exact Nat.le_refl _ | (simp; done) | (simp; omega)) _)) h1
 rintro e w' ⟨rfl, rfl⟩
 go_wp2_with fail
 refine (as_hit_O hb 0 a _ (.pointer none) _ ?_ ?_ ?_ ?_).mono ?_
 ·exact cellB (w := w) (by repeat (first | exact Below.refl _ _ | refine Below.setCell ?_ (by first | exact Nat.le_refl _ | (simp; done) | (simp; omega)) _ | refine Below.alloc ?_ (by first | exact Nat.le_refl _ | (simp; done) | (simp; omega)) _)) hg
 ·exact cellB (w := w) (by repeat (first | exact Below.refl _ _ | refine Below.setCell ?_ (by first | exact Nat.le_refl _ | (simp; done) | (simp; omega)) _ | refine Below.alloc ?_ (by first | exact Nat.le_refl _ | (simp; done) | (simp; omega)) _)) h1
 ·go_simp
 ·go_simp
 rintro e w1 ⟨rfl, hw1⟩
 have HX : Hid (Below w.heap.size w w1) := by
  show Below w.heap.size w w1
  rw [hw1]
  repeat (first | exact Below.refl _ _ | refine Below.setCell ?_ (by first | exact Nat.le_refl _ | (simp; done) | (simp; omega)) _ | refine Below.alloc ?_ (by first | exact Nat.le_refl _ | (simp; done) | (simp; omega)) _)
 have HX2 : Hid (∀ n, Below w.heap.size w (w1.drewN n)) := fun n => ⟨HX.out.os, HX.out.tape, HX.out.output, HX.out.size, HX.out.block⟩
 have c00 : w1.cell? ⟨w.heap.size, 0, none⟩ = some (.int .i64 0) := by rw [hw1]; go_simp
 have z00 : w1.frozen? ⟨w.heap.size, 0, none⟩ = false := by rw [hw1]; go_simp
 have c01 : w1.cell? ⟨w.heap.size, 1, none⟩ = some (.int .i64 0) := by rw [hw1]; go_simp
 have z01 : w1.frozen? ⟨w.heap.size, 1, none⟩ = false := by rw [hw1]; go_simp
 have c02 : w1.cell? ⟨w.heap.size, 2, none⟩ = some (.int .i64 0) := by rw [hw1]; go_simp
 have z02 : w1.frozen? ⟨w.heap.size, 2, none⟩ = false := by rw [hw1]; go_simp
 have c03 : w1.cell? ⟨w.heap.size, 3, none⟩ = some (.string { data := #[] }) := by rw [hw1]; go_simp
 have z03 : w1.frozen? ⟨w.heap.size, 3, none⟩ = false := by rw [hw1]; go_simp
 have c10 : w1.cell? ⟨w.heap.size + 1, 0, none⟩ = some (.int .i64 99) := by rw [hw1]; go_simp
 have z10 : w1.frozen? ⟨w.heap.size + 1, 0, none⟩ = false := by rw [hw1]; go_simp
 have c11 : w1.cell? ⟨w.heap.size + 1, 1, none⟩ = some (.int .i64 n) := by rw [hw1]; go_simp
 have z11 : w1.frozen? ⟨w.heap.size + 1, 1, none⟩ = false := by rw [hw1]; go_simp
 have c12 : w1.cell? ⟨w.heap.size + 1, 2, none⟩ = some (.int .i64 0) := by rw [hw1]; go_simp
 have z12 : w1.frozen? ⟨w.heap.size + 1, 2, none⟩ = false := by rw [hw1]; go_simp
 have c13 : w1.cell? ⟨w.heap.size + 1, 3, none⟩ = some (.string { data := #[] }) := by rw [hw1]; go_simp
 have z13 : w1.frozen? ⟨w.heap.size + 1, 3, none⟩ = false := by rw [hw1]; go_simp
 have cO : w1.cell? ⟨w.heap.size + 3, 0, none⟩ = some (.pointer (some a)) := by rw [hw1]; go_simp
 clear hw1
 have hE := cellB HX.out h1
 go_wp2_with fail
 go_quiet (fail)
 go_wp2
 refine bodyPost_ret (v := toldH 10 n 0) (by simp [toldH, results, Tryz.results57, go_sem, c00, c01, c02, c03]) rfl ⟨rfl, ?_⟩
 iterate 5 (refine Below.setCell ?_ (by first | exact Nat.le_refl _ | (simp; done)) _)
 exact HX2.out _
end Go.Proofs.YtbokdbaagacnlaaGreatDoor
