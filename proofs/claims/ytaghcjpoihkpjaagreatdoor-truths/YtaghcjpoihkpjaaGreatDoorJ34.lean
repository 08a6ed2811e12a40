/-
  plain.Of AT A HoldError AND AT ErrCode, WALKED.
-/
import Derived.Test.YtaghcjpoihkpjaaGreatDoorJ16
import Derived.Test.YtaghcjpoihkpjaaGreatDoorJ33
import Derived.Test.YtaghcjpoihkpjaaGreatDoorJ12
namespace Go.Proofs.YtaghcjpoihkpjaaGreatDoor
open Go.RowKit Go.Lib

/-- The sentinels, each in a block of its own address. -/
structure SentsX (A : Nat → Addr) (w : World) : Prop where
  sents : Sents A w
  row : ∀ i, i < 8 → ∃ c t, w.heap[(A i).block]? = some (.cells c t (0, 0))
  ne : ∀ i j, i < 8 → j < 8 → i ≠ j → A i ≠ A j
  etype : EType w
theorem SentsX.below {A : Nat → Addr} {w w' : World} (h : SentsX A w) (hb : Below w.heap.size w w') : SentsX A w' :=
  ⟨h.sents.below hb, fun i hi => by obtain ⟨c, t, e⟩ := h.row i hi; exact ⟨c, t, (hb.block _ (heap_lt e)).trans e⟩, h.ne, h.etype.below hb⟩
theorem Tryz.assertH1 (v : Value) (xT : TypeId) (w : World) : (Instr.typeAssert (.iface 111 v) xT 103 true).run Tryz.prog w = .ok (.tuple #[.pointer none, .bool false]) w := by kernel_rfl
theorem Tryz.assertH2 (v : Value) (xT : TypeId) (w : World) : (Instr.typeAssert (.iface 111 v) xT 108 true).run Tryz.prog w = .ok (.tuple #[.pointer none, .bool false]) w := by kernel_rfl
theorem Tryz.assertH3 (v : Value) (xT : TypeId) (w : World) : (Instr.typeAssert (.iface 111 v) xT 111 true).run Tryz.prog w = .ok (.tuple #[v, .bool true]) w := by kernel_rfl
/-- What a reason is told as. -/
def toldW : Why → Nat → Value
  | .divide, p => toldH 8 p 0
  | .noData, p => toldH 9 p 0
  | .failed, p => toldH 10 p 0
  | .panic n, p => toldH 11 p n
section
variable {A : Nat → Addr} {w : World} {b p : Nat} {T : TypeId} {x : Value} {y : Why}
theorem plain_hold (hs : SentsX A w) (hh : HoldAt w b p T x) (hw : WhyAt A w y T x) : Calls Tryz.prog 37 #[ptr b] w fun e w' => e = .returned (toldW y p) ∧ Below w.heap.size w w' := by
  cases y with
  | divide =>
    obtain ⟨rfl, rfl⟩ := hw
    exact hold_divide b p (A 5) w hs.etype (cell_of_heap hh rfl) (cell_of_heap hh rfl) hs.sents.g5
  | noData =>
    obtain ⟨rfl, rfl⟩ := hw
    obtain ⟨c5, t5, h5⟩ := hs.row 5 (by decide)
    obtain ⟨c6, t6, h6⟩ := hs.row 6 (by decide)
    exact hold_noData b p (A 6) w hs.etype (cell_of_heap hh rfl) (cell_of_heap hh rfl) (A 5) hs.sents.g5 hs.sents.g6 (hs.ne 6 5 (by decide) (by decide) (by decide)) h6 h5
  | failed =>
    obtain ⟨rfl, c, rfl⟩ := hw
    exact hold_failed b p ⟨c, 0, none⟩ w hs.etype (cell_of_heap hh rfl) (cell_of_heap hh rfl)
  | panic n =>
    obtain ⟨rfl, c, rfl, ho⟩ := hw
    exact hold_panic b c p ⟨c, 0, none⟩ w hs.etype (cell_of_heap hh rfl) (cell_of_heap hh rfl) n (cell_of_heap ho rfl) rfl
set_option maxRecDepth 1000000 in
set_option maxHeartbeats 1000000 in
theorem of_hold (hs : SentsX A w) (hh : HoldAt w b p T x) (hw : WhyAt A w y T x) : Calls Tryz.prog 21 #[.iface 111 (ptr b)] w fun e w' => e = .returned (toldW y p) ∧ Below w.heap.size w w' := by
  have hx : Below w.heap.size w (w.alloc (.cells #[.int .i64 0, .int .i64 0, .int .i64 0, .string { data := #[] }] 24)) := (Below.refl _ _).alloc (Nat.le_refl _) _
  have hcl := plain_hold (hs.below hx) (((hx.block b (heap_lt hh)).trans hh : HoldAt _ b p T x)) (hw.below hx)
  obtain ⟨ce, cn, he⟩ : ∃ ce cn, toldW y p = .agg #[.int .i64 ce, .int .i64 (p : Int), .int .i64 cn, .string { data := #[] }] := by cases y <;> exact ⟨_, _, rfl⟩
  rw [he] at hcl ⊢
  have t1 := Tryz.assertH1
  have t2 := Tryz.assertH2
  have t3 := Tryz.assertH3
  have HX : Hid _ := hx
  clear hs hh hw hx he
  go_enter Tryz.func21, Tryz.ntmps21
  go_wp2_with fail
  refine hcl.mono ?_
  rintro e w1 ⟨rfl, hb1⟩
  have bn : w1.heap[w.heap.size]? = some (.cells #[.int .i64 0, .int .i64 0, .int .i64 0, .string { data := #[] }] 24 (0, 0)) := (hb1.block _ (by simp)).trans cells_new
  have c0 := cell_of_heap (i := 0) bn rfl
  have c1 := cell_of_heap (i := 1) bn rfl
  have c2 := cell_of_heap (i := 2) bn rfl
  have c3 := cell_of_heap (i := 3) bn rfl
  have z0 := frozen_of_heap (i := 0) bn
  have z1 := frozen_of_heap (i := 1) bn
  have z2 := frozen_of_heap (i := 2) bn
  have z3 := frozen_of_heap (i := 3) bn
  have HB : Hid (Below w.heap.size w w1) := HX.out.trans (hb1.mono (by simp))
  clear bn hb1 hcl HX
  go_wp2
  refine bodyPost_ret (v := .agg #[.int .i64 ce, .int .i64 (p : Int), .int .i64 cn, .string { data := #[] }]) (by simp [results, Tryz.results21, go_sem, c0, c1, c2, c3]) rfl ⟨rfl, ?_⟩
  iterate 4 (refine Below.setCell ?_ (by exact Nat.le_refl _) _)
  exact HB.out
set_option maxRecDepth 1000000 in
set_option maxHeartbeats 2000000 in
theorem code_sentinelC (h : SentsX A w) : Calls Tryz.prog 38 #[.iface 349 (.pointer (some (A 1)))] w fun e w' => e = .returned (.int .i64 4) ∧ Below w.heap.size w w' := by
  obtain ⟨ca, ta, ha⟩ := h.row 1 (by decide)
  obtain ⟨cb, tb, hb⟩ := h.row 0 (by decide)
  have hne := h.ne 1 0 (by decide) (by decide) (by decide)
  obtain ⟨⟨g0, g1, g2, g3, g4, g5, g6, g7⟩, -, -, -⟩ := h
  obtain ⟨ti, hi, hcmp⟩ := Option.map_eq_some_iff.1 Tryz.isComp
  obtain ⟨tj, hj, hjs⟩ := Option.map_eq_some_iff.1 Tryz.isSize
  have heq := fun W => run_eql_iface_ptr_same (P := Tryz.prog) W (A 1) Tryz.underlying50 Tryz.underlying349 hi hcmp hj
  have hot := fun W => run_eql_iface_ptr_other (P := Tryz.prog) W (ca := ca) (cb := cb) (ta := ta) (tb := tb) Tryz.underlying50 Tryz.underlying349 hi hcmp hj (by rw [hjs]; decide) hne
  clear hi hcmp hj hjs
  go_enter Tryz.func38, Tryz.ntmps38
  go_wp2_with fail
  obtain ⟨X, hX⟩ : ∃ X, X = w.alloc (.cells #[.nilIface, .iface 349 (.pointer (some (A 0))), .nilIface, .nilIface, .iface 349 (.pointer (some (A 1))), .iface 349 (.pointer (some (A 2))), .iface 349 (.pointer (some (A 3))), .iface 349 (.pointer (some (A 4))), .iface 349 (.pointer (some (A 5))), .iface 349 (.pointer (some (A 6))), .nilIface, .nilIface, .iface 349 (.pointer (some (A 7)))] 50) := ⟨_, rfl⟩
  rw [← hX]
  have x0 : X.cell? ⟨w.heap.size, 0, none⟩ = some .nilIface := by rw [hX]; go_simp
  have x1 : X.cell? ⟨w.heap.size, 1, none⟩ = some (.iface 349 (.pointer (some (A 0)))) := by rw [hX]; go_simp
  have x2 : X.cell? ⟨w.heap.size, 2, none⟩ = some .nilIface := by rw [hX]; go_simp
  have x3 : X.cell? ⟨w.heap.size, 3, none⟩ = some .nilIface := by rw [hX]; go_simp
  have x4 : X.cell? ⟨w.heap.size, 4, none⟩ = some (.iface 349 (.pointer (some (A 1)))) := by rw [hX]; go_simp
  have hbx : Below w.heap.size w X := by rw [hX]; exact (Below.refl _ _).alloc (Nat.le_refl _) _
  have hot := hot X ((hbx.block _ (heap_lt ha)).trans ha) ((hbx.block _ (heap_lt hb)).trans hb)
  have HX : Hid (Below w.heap.size w X) := hbx
  clear hX hbx g0 g1 g2 g3 g4 g5 g6 g7 ha hb
  refine wp_loop_rounds 5 ?_
  rw [rounds_succ]
  go_wp2_with fail
  rw [rounds_succ]
  go_wp2_with fail
  rw [rounds_succ]
  go_wp2_with fail
  rw [rounds_succ]
  go_wp2_with fail
  rw [rounds_succ]
  go_wp2
  go_ret
  exact ⟨rfl, HX.out⟩
set_option maxRecDepth 1000000 in
set_option maxHeartbeats 1000000 in
theorem of_code (h : SentsX A w) : Calls Tryz.prog 21 #[.iface 349 (.pointer (some (A 1)))] w fun e w' => e = .returned (told4 4 0 ⟨#[]⟩) ∧ Below w.heap.size w w' := by
  have t1 := Tryz.assertE1
  have t2 := Tryz.assertE2
  have t3 := Tryz.assertE3
  have hx : Below w.heap.size w (w.alloc (.cells #[.int .i64 0, .int .i64 0, .int .i64 0, .string { data := #[] }] 24)) := (Below.refl _ _).alloc (Nat.le_refl _) _
  have hse := code_sentinelC (h.below hx)
  have HX : Hid _ := hx
  clear h hx
  go_enter Tryz.func21, Tryz.ntmps21
  go_wp2_with fail
  refine hse.mono ?_
  rintro e w1 ⟨rfl, hb1⟩
  have bn : w1.heap[w.heap.size]? = some (.cells #[.int .i64 0, .int .i64 0, .int .i64 0, .string { data := #[] }] 24 (0, 0)) := (hb1.block _ (by simp)).trans cells_new
  have c0 := cell_of_heap (i := 0) bn rfl
  have c1 := cell_of_heap (i := 1) bn rfl
  have c2 := cell_of_heap (i := 2) bn rfl
  have c3 := cell_of_heap (i := 3) bn rfl
  have z0 := frozen_of_heap (i := 0) bn
  have z1 := frozen_of_heap (i := 1) bn
  have z2 := frozen_of_heap (i := 2) bn
  have z3 := frozen_of_heap (i := 3) bn
  have HB : Hid (Below w.heap.size w w1) := HX.out.trans (hb1.mono (by simp))
  clear bn hb1 hse HX
  go_wp2
  refine bodyPost_ret (v := told4 4 0 ⟨#[]⟩) (by simp [told4, results, Tryz.results21, go_sem, c0, c1, c2, c3]) rfl ⟨rfl, ?_⟩
  iterate 4 (refine Below.setCell ?_ (by exact Nat.le_refl _) _)
  exact HB.out
/-- What a value or a reason is told as. -/
def toldR : Res → Value
  | .val _ => told4 0 0 ⟨#[]⟩
  | .held p y => toldW y p
end
end Go.Proofs.YtaghcjpoihkpjaaGreatDoor
namespace Go.Proofs.YtaghcjpoihkpjaaGreatDoor
open Go.RowKit Go.Lib Go.Shelf

theorem Tryz.etG : Tryz.prog.globalNamed "errors.errorType" = some 8 := by kernel_rfl
theorem Tryz.rtG : (Tryz.prog.cutTypes.find? (·.1 == "internal/reflectlite.rtype")).map (·.2) = some 265 := by kernel_rfl
theorem Tryz.oneRow : ((List.range 381).filter fun t => Tryz.prog.rowNamed t [101, 114, 114, 111, 114]) = [50] := by kernel_rfl
theorem Tryz.sizeT : Tryz.prog.types.size = 381 := by kernel_rfl
theorem handle_of_laid {W : World} (h : handlesMet Tryz.prog [("errors.errorType", Rows.laid_errors_errorType)] W) : EType W := by
  obtain ⟨name, u, ty, e1, e2, e3, e4, e5⟩ := h _ (List.mem_singleton.2 rfl)
  have en : name = [101, 114, 114, 111, 114] := (Option.some.inj e1).symm
  subst en
  obtain rfl := Option.some.inj (Tryz.rtG.symm.trans e2)
  have hm : ty ∈ (List.range 381).filter fun t => Tryz.prog.rowNamed t [101, 114, 114, 111, 114] := List.mem_filter.2 ⟨List.mem_range.2 (by rw [← Tryz.sizeT]; exact e3), e4⟩
  rw [Tryz.oneRow] at hm
  obtain rfl := List.mem_singleton.1 hm
  have hh : typeHandle Tryz.prog 50 = .pointer (some ⟨18, 50, none⟩) := by kernel_rfl
  rw [hh] at e5
  unfold EType
  simpa using World.var?_cell Tryz.etG e5 0
theorem in64_of_wf {n : Int} (h : (Lit.int .i64 n).wf = true) : In64 n := by
  have h1 : IntKind.i64.min = -9223372036854775808 := by decide
  have h2 : IntKind.i64.max = 9223372036854775807 := by decide
  simp [Lit.wf, h1, h2] at h
  unfold In64
  omega
theorem i32_of_wf {n : Int} (h : (Lit.int .i32 n).wf = true) : -2147483648 ≤ n ∧ n ≤ 2147483647 := by
  have h1 : IntKind.i32.min = -2147483648 := by decide
  have h2 : IntKind.i32.max = 2147483647 := by decide
  simp [Lit.wf, h1, h2] at h
  omega
end Go.Proofs.YtaghcjpoihkpjaaGreatDoor
namespace Go.Proofs.YtaghcjpoihkpjaaGreatDoor
open Go.RowKit Go.Lib

def wSeven : ByteArray := ⟨#[115, 101, 118, 101, 110]⟩
def wBoom : ByteArray := ⟨#[98, 111, 111, 109]⟩
def wMax : ByteArray := ⟨#[109, 97, 120]⟩
/-- The map that plain.some gives. -/
def someF : ByteArray → Option Value := fun t => if t = wMax then some (.func (.func 35) #[] #[]) else if t = wBoom then some (.func (.func 34) #[] #[]) else if t = wSeven then some (.func (.func 33) #[] #[]) else none
/-- What plain.look tells. -/
def lookP (n : Int) : Found := if n.tmod 5 ≠ 0 then .num (n.tmod 9 - 4) else .nothing (n.tmod 9 - 4)
def probeP (nm : ByteArray) (xs : List Int) : PFound := if nm = wMax then .val (xs.headD 0) else if nm = wBoom then .pan (-5) else .val 7
def envP : Env Unit := ⟨some fun _ _ n s => (lookP n, s), fun nm xs s => (probeP nm xs, s)⟩
def envN : Env Unit := ⟨none, fun nm xs s => (probeP nm xs, s)⟩
/-- Nothing that was there is turned. -/
def SB (w0 : World) : Unit → World → Prop := fun _ w => Below w0.heap.size w0 w
theorem SB.stable (w0 : World) : StableN w0.heap.size (SB w0) := ⟨fun _ _ h => h.size, fun _ _ _ h hb => h.trans hb⟩
theorem tmod_small (n k : Int) (hk : 0 < k) : -k < n.tmod k ∧ n.tmod k < k := by
  have h1 := Int.tmod_lt_of_pos n hk
  have h2 := Int.lt_tmod_of_pos n hk
  exact ⟨h2, h1⟩
set_option maxRecDepth 1000000 in
theorem look_ok (S : Unit → World → Prop) (R : Nat) : LookOk S R (.func (.func 20) #[] #[]) (fun _ _ n s => (lookP n, s)) := by
  refine ⟨_, #[], #[], rfl, fun args w => by simp, fun kind metric n s w hn hs => ?_⟩
  have h9 := tmod_small n 9 (by decide)
  have h5 := tmod_small n 5 (by decide)
  have HS : Hid (S s w) := hs
  have HN : Hid (In64 n) := hn
  have n1 := hn.1
  have n2 := hn.2
  clear hs hn
  show Calls _ _ #[.string kind, .string metric, .int .i64 n] _ _
  go_enter Tryz.func20, Tryz.ntmps20
  go_wp2
  go_ret2
  refine ⟨Keep.refl R w, ?_⟩
  show LookR S (lookP n, s) w (.returned (.tuple #[.int .i64 (n.tmod 9 - 4), .bool (n.tmod 5 != 0)]))
  unfold lookP
  by_cases h : n.tmod 5 = 0
  · rw [if_neg (by simpa using h), show (n.tmod 5 != 0) = false by simp [h]]
    exact ⟨rfl, HS.out⟩
  · rw [if_pos h, show (n.tmod 5 != 0) = true by simp [h]]
    exact ⟨rfl, by unfold In64; omega, HS.out⟩
set_option maxRecDepth 1000000 in
theorem seven_ok (S : Unit → World → Prop) (R N : Nat) : ProbeOk S R N (.func (.func 33) #[] #[]) (fun xs s => (probeP wSeven xs, s)) := by
  refine ⟨_, #[], rfl, fun args w => by simp, fun xs v s w hx hl ho hs => ?_⟩
  obtain ⟨ao, cp, rfl⟩ := owns_len ho
  have HS : Hid (S s w) := hs
  clear hs ho
  show Calls _ _ #[.slice ao xs.length cp] _ _
  go_enter Tryz.func33, Tryz.ntmps33
  go_wp2
  go_ret2
  exact ⟨KeepX.of_below (Below.refl _ _), rfl, by unfold In64; omega, HS.out⟩
set_option maxRecDepth 1000000 in
theorem boom_ok (S : Unit → World → Prop) (R N : Nat) : ProbeOk S R N (.func (.func 34) #[] #[]) (fun xs s => (probeP wBoom xs, s)) := by
  refine ⟨_, #[], rfl, fun args w => by simp, fun xs v s w hx hl ho hs => ?_⟩
  obtain ⟨ao, cp, rfl⟩ := owns_len ho
  have HS : Hid (S s w) := hs
  clear hs ho
  show Calls _ _ #[.slice ao xs.length cp] _ _
  go_enter Tryz.func34, Tryz.ntmps34
  go_wp2
  exact ⟨rfl, KeepX.of_below (Below.refl _ _), rfl, HS.out⟩
set_option maxRecDepth 1000000 in
theorem max_ok (S : Unit → World → Prop) (R N : Nat) : ProbeOk S R N (.func (.func 35) #[] #[]) (fun xs s => (probeP wMax xs, s)) := by
  refine ⟨_, #[], rfl, fun args w => by simp, fun xs v s w hx hl ho hs => ?_⟩
  have HS : Hid (S s w) := hs
  obtain ⟨ao, cp, rfl⟩ := owns_len ho
  cases xs with
  | nil =>
    clear hs ho
    show Calls _ _ #[.slice ao 0 cp] _ _
    go_enter Tryz.func35, Tryz.ntmps35
    go_wp2
    go_ret2
    exact ⟨KeepX.of_below (Below.refl _ _), rfl, by unfold In64; simp, HS.out⟩
  | cons x xs =>
    have hcx : ∃ g, ao = some ⟨g, 0, none⟩ ∧ w.cell? ⟨g, 0, none⟩ = some (.int .i64 x) := by
      rcases ho.2 with ⟨q, -⟩ | ⟨g, cap, cur, q, -⟩
      · cases q
      · injection q with q
        subst q
        exact ⟨g, rfl, by simpa [ints, Addr.add] using ho.cells (g := g) rfl 0 (.int .i64 x) rfl⟩
    obtain ⟨g, rfl, hc⟩ := hcx
    have HX : Hid (In64 x) := hx x (by simp)
    clear hs ho hx
    show Calls _ _ #[.slice (some ⟨g, 0, none⟩) (xs.length + 1) cp] _ _
    have hpos : ¬ ((xs.length : Int) + 1 = 0) := by omega
    have hlt : (0 : Int) < (xs.length : Int) + 1 := by omega
    go_enter Tryz.func35, Tryz.ntmps35
    go_wp2
    go_ret2
    exact ⟨KeepX.of_below (Below.refl _ _), rfl, HX.out, HS.out⟩
/-- 'm[k] = v' of a literal. -/
theorem wpList_insert_F (w : World) {ops : Array Oper} {rest : List Oper} {o : Oper} {a : Act} {Q : Exit → Act → World → Prop}
    (hg : o.guard = none) (m x v : Operand) (hop : o.op = Op.insert 57 m x v) (b : Nat) (F : ByteArray → Option Value) (s : ByteArray) (val : Value)
    (hm : a.eval m = .map (some b)) (h : MapF w b F) (hx : a.eval x = .string s) (hv : a.eval v = val)
    (hK : ∀ w', MapF w' b (fun t => if t = s then some val else F t) → w.grownBy w' (some b) → wpList Tryz.prog ops Q rest (a.put o.dst undef) w') :
    wpList Tryz.prog ops Q (o :: rest) a w := by
  refine wpList_plain hg fun K' hK' => ?_
  obtain ⟨w', hrun, r1, r2⟩ := h.update s val
  unfold Oper.wp
  simp [execOp, hop, hm, hx, hv, hrun, Result.andThen]
  exact hK' _ _ (hK w' r1 r2)
set_option maxRecDepth 1000000 in
theorem plain_some (w : World) : Calls Tryz.prog 18 #[] w fun e w' => Below w.heap.size w w' ∧ e = .returned (.map (some w.heap.size)) ∧ MapF w' w.heap.size someF := by
  have hmm := @run_makeMap Tryz.prog
  have HN : Hid _ := MapF.new w
  go_enter Tryz.func18, Tryz.ntmps18
  go_wp2_with (first
    | (refine wpList_insert_F _ rfl _ _ _ rfl w.heap.size _ wSeven _ rfl HN.out rfl rfl ?_; intro w1 hm1 hg1; have Q1 : Hid _ := And.intro hm1 hg1; clear hm1 hg1)
    | (refine wpList_insert_F _ rfl _ _ _ rfl w.heap.size _ wBoom _ rfl Q1.out.1 rfl rfl ?_; intro w2 hm2 hg2; have Q2 : Hid _ := And.intro hm2 hg2; clear hm2 hg2)
    | (refine wpList_insert_F _ rfl _ _ _ rfl w.heap.size _ wMax _ rfl Q2.out.1 rfl rfl ?_; intro w3 hm3 hg3; have Q3 : Hid _ := And.intro hm3 hg3; clear hm3 hg3)
    | fail)
  go_ret
  have hgr : ∀ {x y : World}, Below w.heap.size w x → x.grownBy y (some w.heap.size) → Below w.heap.size w y := fun hb hg => ⟨hg.os.trans hb.os, hg.tape.trans hb.tape, hg.output.trans hb.output, Nat.le_trans hb.size hg.size, fun k hk => (hg.block k (by have := hb.size; omega) (fun e => by injection e with e; omega)).trans (hb.block k hk)⟩
  exact ⟨hgr (hgr (hgr ((Below.refl _ _).alloc (Nat.le_refl _) _) Q1.out.2) Q2.out.2) Q3.out.2, rfl, Q3.out.1.congr fun s => rfl⟩
theorem someF_func {s : ByteArray} {v : Value} (h : someF s = some v) : FuncV v := by
  unfold someF at h
  split at h
  · injection h with h; subst h; exact .inr ⟨_, _, _, rfl⟩
  · split at h
    · injection h with h; subst h; exact .inr ⟨_, _, _, rfl⟩
    · split at h
      · injection h with h; subst h; exact .inr ⟨_, _, _, rfl⟩
      · cases h
theorem someF_probe (S : Unit → World → Prop) (R N : Nat) {s : ByteArray} (h : thereP someF s) : ∃ fv, someF s = some fv ∧ ProbeOk S R N fv (envP.probe s) ∧ ProbeOk S R N fv (envN.probe s) := by
  obtain ⟨f, x, y, h⟩ := h
  unfold someF at h
  split at h
  · rename_i e; subst e; exact ⟨_, rfl, max_ok S R N, max_ok S R N⟩
  · split at h
    · rename_i e; subst e; exact ⟨_, rfl, boom_ok S R N, boom_ok S R N⟩
    · split at h
      · rename_i e; subst e; exact ⟨_, rfl, seven_ok S R N, seven_ok S R N⟩
      · cases h
end Go.Proofs.YtaghcjpoihkpjaaGreatDoor
namespace Go.Proofs.YtaghcjpoihkpjaaGreatDoor
open Go.RowKit Go.Lib

theorem PRel.forms {s : ByteArray} {t : Option Tree} {f p : Nat} (h : PRel s (t, f, p)) : (t.isSome = false ∧ f = 1 ∧ p = 0) ∨ (t.isSome = false ∧ f = 2) ∨ (t.isSome = true ∧ f = 0 ∧ p = 0) := by
  rcases h with ⟨-, h⟩ | ⟨-, ⟨J, -, h⟩ | ⟨t, J, -, -, h⟩ | ⟨t, J, -, -, h⟩⟩
  · injection h with h1 h2; injection h2 with h2 h3; subst h1; exact .inl ⟨rfl, h2, h3⟩
  · injection h with h1 h2; injection h2 with h2 h3; subst h1; exact .inr (.inl ⟨rfl, h2⟩)
  · injection h with h1 h2; injection h2 with h2 h3; subst h1; exact .inr (.inl ⟨rfl, h2⟩)
  · injection h with h1 h2; injection h2 with h2 h3; subst h1; exact .inr (.inr ⟨rfl, h2, h3⟩)

end Go.Proofs.YtaghcjpoihkpjaaGreatDoor
