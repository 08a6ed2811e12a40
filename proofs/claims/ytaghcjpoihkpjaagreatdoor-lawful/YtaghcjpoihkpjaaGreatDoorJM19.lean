/-
  A FUNCTION THAT IS HANDED IN, ASKED: bytecode.recovered, WALKED: what it answers, or the value with which it panics.
-/
import Derived.Test.YtaghcjpoihkpjaaGreatDoorJM18
import Derived.Defers
import Derived.Recover
import Derived.Test.YtaghcjpoihkpjaaGreatDoorJM2
namespace Go.Proofs.YtaghcjpoihkpjaaGreatDoor
open Go.RowKit Go.Lib

set_option maxRecDepth 1000000 in
/-- The deferred closure in a frame that panics. -/
theorem catch_panicking {p q : Nat} {x : Value} (u : TypeId) (pv : Value) (older : List PanicEntry) (w : World) (hp : One w p (.bool false) 4) (hq : One w q x 50) :
    CallsD Tryz.prog 196 #[ptr p, ptr q] (.panicking ({ v := .iface u pv, recovered := false } :: older)) w fun e u' w' =>
      e = .returned (.tuple #[]) ∧ u' = .panicking ({ v := .iface u pv, recovered := true } :: older) ∧ w' = (w.alloc (.cells #[.iface u pv] 155)).setCell ⟨q, 0, none⟩ (.iface 149 (ptr w.heap.size)) := by
  have c0 : w.cell? ⟨p, 0, none⟩ = some (.bool false) := cell_of_heap hp rfl
  have hq' := heap_alloc_old (o := .cells #[.iface u pv] 155) hq
  have c1 : (w.alloc (.cells #[.iface u pv] 155)).cell? ⟨q, 0, none⟩ = some x := cell_of_heap hq' rfl
  have z1 : (w.alloc (.cells #[.iface u pv] 155)).frozen? ⟨q, 0, none⟩ = false := frozen_of_heap hq'
  refine callsD_of_wpS Tryz.func196 rfl fun c₀ cs hu => ?_
  apply wpS_seq
  apply wpS_region
  simp [wpOpsS, go_sem, recoverD, hu, Tryz.ntmps196, Exit.thenS]
  apply wpS_seq
  apply wpS_region
  simp [wpOpsS, go_sem, c0, Exit.thenS]
  refine wpS_cond (t := true) (by simp [Act.eval, Array.replicate]) ?_
  simp only [if_true]
  apply wpS_region
  simp [wpOpsS, go_sem, c1, z1, bodyPostS, results, Tryz.results196]
set_option maxRecDepth 1000000 in
/-- The deferred closure in a frame that returns. -/
theorem catch_idle {p q : Nat} (w : World) (hp : One w p (.bool true) 4) :
    CallsD Tryz.prog 196 #[ptr p, ptr q] .returning w fun e u' w' => e = .returned (.tuple #[]) ∧ u' = .returning ∧ w' = w := by
  have c0 : w.cell? ⟨p, 0, none⟩ = some (.bool true) := cell_of_heap hp rfl
  refine callsD_of_wpS Tryz.func196 rfl fun c₀ cs hu => ?_
  apply wpS_seq
  apply wpS_region
  simp [wpOpsS, go_sem, recoverD, hu, Tryz.ntmps196, Exit.thenS]
  apply wpS_seq
  apply wpS_region
  simp [wpOpsS, go_sem, c0, Exit.thenS]
  refine wpS_cond (t := false) (by simp [Act.eval, Array.replicate]) ?_
  simp only [Bool.false_eq_true, if_false]
  refine wpS_of_wp (wp_skip ?_)
  cases c₀
  simp_all [bodyPostS, results, Tryz.results196]
/-- What a function that is handed in answers. -/
inductive Ans where
  | val (n : Int)
  | fail (n : Int) (T : TypeId) (x : Value)
  | pan (u : TypeId) (pv : Value)
def AnsE : Ans → Ending → Prop
  | .val n, e => e = .returned (.tuple #[.int .i64 n, .nilIface])
  | .fail n T x, e => e = .returned (.tuple #[.int .i64 n, .iface T x])
  | .pan u pv, e => e = .panicked [{ v := .iface u pv, recovered := false }]
/-- What recovered makes of it. -/
def AnsR : Ans → Nat → World → Ending → Prop
  | .val n, _, _, e => e = .returned (.tuple #[.int .i64 n, .nilIface])
  | .fail n T x, _, _, e => e = .returned (.tuple #[.int .i64 n, .iface T x])
  | .pan u pv, b, w, e => e = .returned (.tuple #[.int .i64 0, .iface 149 (ptr b)]) ∧ One w b (.iface u pv) 155
/-- What lies as it lay, but for two blocks. -/
structure But2 (p : Nat) (w w' : World) : Prop where
  os : w'.os = w.os
  tape : w'.tape = w.tape
  output : w'.output = w.output
  size : w.heap.size ≤ w'.heap.size
  block : ∀ k, k < w.heap.size → k ≠ p → k ≠ p + 1 → w'.heap[k]? = w.heap[k]?
/-- All that was there, but for blocks of one kind, is as it was. -/
structure KeepX (X : Nat → Prop) (w w' : World) : Prop where
  os : w'.os = w.os
  tape : w'.tape = w.tape
  output : w'.output = w.output
  size : w.heap.size ≤ w'.heap.size
  block : ∀ k, k < w.heap.size → ¬ X k → w'.heap[k]? = w.heap[k]?
theorem KeepX.of_below {X : Nat → Prop} {w w' : World} (h : Below w.heap.size w w') : KeepX X w w' := ⟨h.os, h.tape, h.output, h.size, fun k lt _ => h.block k lt⟩
theorem KeepX.trans {X : Nat → Prop} {w w1 w2 : World} (h : KeepX X w w1) (k : KeepX X w1 w2) : KeepX X w w2 := ⟨k.os.trans h.os, k.tape.trans h.tape, k.output.trans h.output, Nat.le_trans h.size k.size, fun i lt n => (k.block i (Nat.lt_of_lt_of_le lt h.size) n).trans (h.block i lt n)⟩
theorem Keep.x {R : Nat} {w w' : World} (h : Keep R w w') : KeepX (· = R) w w' := ⟨h.os, h.tape, h.output, h.size, h.block⟩
theorem KeepX.one {R : Nat} {w w' : World} (h : KeepX (· = R) w w') : Keep R w w' := ⟨h.os, h.tape, h.output, h.size, h.block⟩
theorem But2.below {p : Nat} {w w1 w2 : World} (h : But2 p w w1) (hb : Below w1.heap.size w1 w2) : But2 p w w2 := ⟨hb.os.trans h.os, hb.tape.trans h.tape, hb.output.trans h.output, Nat.le_trans h.size hb.size, fun k lt a b => (hb.block k (Nat.lt_of_lt_of_le lt h.size)).trans (h.block k lt a b)⟩
theorem block_at9 {w : World} {cs : Array Value} {T : TypeId} {n : Nat} (h : w.heap.size = n) : (w.alloc (.cells cs T)).heap[n]? = some (.cells cs T (0, 0)) := by subst h; exact block_new w cs T
set_option maxRecDepth 1000000 in
set_option maxHeartbeats 1000000 in
theorem code_recovered {X : Nat → Prop} {F : Nat} {caps : Array Value} {w : World} {Q : Ans → World → Prop} (hR : ∀ k, X k → k < w.heap.size) (hcf : ∀ w : World, (callFunc F caps).run Tryz.prog w = .ok (.enter F caps) w)
    (hc : ∀ W, Below w.heap.size w W → Calls Tryz.prog F caps W fun e w1 => ∃ a, AnsE a e ∧ KeepX X W w1 ∧ Q a w1) :
    Calls Tryz.prog 180 #[.func (.func F) #[] caps] w fun e w' => ∃ a w1, Q a w1 ∧ KeepX X w w1 ∧ But2 w.heap.size w1 w' ∧ AnsR a w1.heap.size w' e := by
  have hmf : ∀ (fn : Fn) (first cap : Array Value) (w : World), (Instr.makeFunc fn first cap).run Tryz.prog w = .ok (.func fn first cap) w := fun _ _ _ _ => rfl
  have hb : Below w.heap.size w ((w.alloc (.cells #[.nilIface] 50)).alloc (.cells #[.bool false] 4)) := ((Below.refl _ _).alloc (Nat.le_refl _) _).alloc (by simp) _
  have hc := hc _ hb
  have HB : Hid _ := hb
  clear hb
  go_enter_defers Tryz.func180, Tryz.ntmps180
  go_wp2_with fail
  refine hc.mono ?_
  rintro e w1 ⟨a, ha, hk, hq⟩
  have O1 : Hid (One w1 w.heap.size .nilIface 50) := (hk.block _ (by simp; omega) (fun q => by have := hR _ q; omega)).trans (heap_alloc_old (heap_alloc_new _ _))
  have O2 : Hid (One w1 (w.heap.size + 1) (.bool false) 4) := (hk.block _ (by simp) (fun q => by have := hR _ q; omega)).trans (by have := block_at9 (w := w.alloc (.cells #[.nilIface] 50)) (cs := #[.bool false]) (T := 4) (n := w.heap.size + 1) (by simp); exact this)
  have K1 : Hid (KeepX X w w1) := (KeepX.of_below HB.out).trans hk
  have HQ : Hid (Q a w1) := hq
  have c0 : w1.cell? ⟨w.heap.size, 0, none⟩ = some .nilIface := cell_of_heap O1.out rfl
  have c1 : w1.cell? ⟨w.heap.size + 1, 0, none⟩ = some (.bool false) := cell_of_heap O2.out rfl
  have z0 : w1.frozen? ⟨w.heap.size, 0, none⟩ = false := frozen_of_heap O1.out
  have z1 : w1.frozen? ⟨w.heap.size + 1, 0, none⟩ = false := frozen_of_heap O2.out
  have ls := heap_lt O2.out
  clear hc hk hq
  cases a with
  | val n =>
    have ha : e = .returned (.tuple #[.int .i64 n, .nilIface]) := ha
    subst ha
    go_wp2_with fail
    go_region
    all_goals
      go_wp2
      refine leaves_cons (f := 196) (args := #[.pointer (some ⟨w.heap.size + 1, 0, none⟩), .pointer (some ⟨w.heap.size, 0, none⟩)]) (by simp) (by simp [go_sem]) ?_
      refine (catch_idle (p := w.heap.size + 1) (q := w.heap.size) _ ?_).mono ?_
      · exact heap_set_other (heap_set_same (heap_set_other O2.out (by simp))) (by simp)
      rintro e u' w'' ⟨rfl, rfl, rfl⟩
      simp [Leaves, settle, results, Tryz.results180, go_sem, c0]
      refine ⟨_, w1, HQ.out, K1.out, ⟨rfl, rfl, rfl, by simp, fun k _ h1 h2 => ?_⟩, rfl⟩
      exact (Below.heap_setCell _ _ _ k h1).trans ((Below.heap_setCell _ _ _ k h2).trans (Below.heap_setCell _ _ _ k h1))
  | fail n T x =>
    have ha : e = .returned (.tuple #[.int .i64 n, .iface T x]) := ha
    subst ha
    go_wp2_with fail
    go_region
    all_goals
      go_wp2
      refine leaves_cons (f := 196) (args := #[.pointer (some ⟨w.heap.size + 1, 0, none⟩), .pointer (some ⟨w.heap.size, 0, none⟩)]) (by simp) (by simp [go_sem]) ?_
      refine (catch_idle (p := w.heap.size + 1) (q := w.heap.size) _ ?_).mono ?_
      · exact heap_set_other (heap_set_same (heap_set_other O2.out (by simp))) (by simp)
      rintro e u' w'' ⟨rfl, rfl, rfl⟩
      simp [Leaves, settle, results, Tryz.results180, go_sem, c0]
      refine ⟨_, w1, HQ.out, K1.out, ⟨rfl, rfl, rfl, by simp, fun k _ h1 h2 => ?_⟩, rfl⟩
      exact (Below.heap_setCell _ _ _ k h1).trans ((Below.heap_setCell _ _ _ k h2).trans (Below.heap_setCell _ _ _ k h1))
  | pan u pv =>
    have ha : e = .panicked [{ v := .iface u pv, recovered := false }] := ha
    subst ha
    go_wp2
    refine leaves_cons (f := 196) (args := #[.pointer (some ⟨w.heap.size + 1, 0, none⟩), .pointer (some ⟨w.heap.size, 0, none⟩)]) (by simp) (by simp [go_sem]) ?_
    refine (catch_panicking (p := w.heap.size + 1) (q := w.heap.size) u pv [] _ O2.out O1.out).mono ?_
    rintro e u' w'' ⟨rfl, rfl, rfl⟩
    have OE : One ((w1.alloc (.cells #[.iface u pv] 155)).setCell ⟨w.heap.size, 0, none⟩ (.iface 149 (ptr w1.heap.size))) w.heap.size (.iface 149 (ptr w1.heap.size)) 50 := heap_set_same (heap_alloc_old O1.out)
    have cE := cell_of_heap (i := 0) (v := .iface 149 (ptr w1.heap.size)) OE rfl
    simp [Leaves, settle, results, Tryz.results180, go_sem, cE]
    refine ⟨.pan u pv, w1, HQ.out, K1.out, ⟨rfl, rfl, rfl, by simp, fun k lt h1 _ => ?_⟩, rfl, ?_⟩
    · exact (Below.heap_setCell _ _ _ k h1).trans (Below.heap_alloc _ _ k lt)
    · exact heap_set_other (heap_alloc_new _ _) (by show w1.heap.size ≠ w.heap.size; omega)
end Go.Proofs.YtaghcjpoihkpjaaGreatDoor
namespace Go.Proofs.YtaghcjpoihkpjaaGreatDoor
open Go.RowKit Go.Lib

/-- A held error in memory. -/
def HoldAt (w : World) (b p : Nat) (T : TypeId) (x : Value) : Prop := w.heap[b]? = some (.cells #[.int .i64 (p : Int), .iface T x] 148 (0, 0))
set_option maxRecDepth 1000000 in
theorem code_hold (p : Nat) (T : TypeId) (x : Value) (w : World) : Calls Tryz.prog 117 #[.agg #[.int .i64 (p : Int)], .iface T x] w fun e w' => ∃ b, e = .returned (.iface 111 (ptr b)) ∧ HoldAt w' b p T x ∧ Below w.heap.size w w' := by
  go_enter Tryz.func117, Tryz.ntmps117
  go_wp2
  go_ret
  exact ⟨_, rfl, block_at9 (by simp), ((Below.refl _ _).alloc (Nat.le_refl _) _).alloc (by simp) _⟩
/-- What ask makes of an answer. -/
def AskR : Ans → Nat → World → Ending → Prop
  | .val n, _, _, e => e = .returned (.tuple #[.int .i64 n, .nilIface])
  | .fail _ T x, p, w, e => ∃ b, e = .returned (.tuple #[.int .i64 0, .iface 111 (ptr b)]) ∧ HoldAt w b p T x
  | .pan u pv, p, w, e => ∃ b c, e = .returned (.tuple #[.int .i64 0, .iface 111 (ptr b)]) ∧ HoldAt w b p 149 (ptr c) ∧ One w c (.iface u pv) 155
set_option maxRecDepth 1000000 in
set_option maxHeartbeats 1000000 in
theorem code_ask {X : Nat → Prop} {F p : Nat} {caps : Array Value} {w : World} {Q : Ans → World → Prop} (hR : ∀ k, X k → k < w.heap.size) (hcf : ∀ w : World, (callFunc F caps).run Tryz.prog w = .ok (.enter F caps) w)
    (hc : ∀ W, Below w.heap.size w W → Calls Tryz.prog F caps W fun e w1 => ∃ a, AnsE a e ∧ KeepX X W w1 ∧ Q a w1) :
    Calls Tryz.prog 160 #[.agg #[.int .i64 (p : Int)], .func (.func F) #[] caps] w fun e w' => ∃ a w1, Q a w1 ∧ KeepX X w w1 ∧ But2 (w.heap.size + 1) w1 w' ∧ AskR a p w' e := by
  have hb : Below w.heap.size w (w.alloc (.cells #[.int .i64 (p : Int)] 105)) := (Below.refl _ _).alloc (Nat.le_refl _) _
  have hp : (w.alloc (.cells #[.int .i64 (p : Int)] 105)).heap[w.heap.size]? = some (.cells #[.int .i64 (p : Int)] 105 (0, 0)) := heap_alloc_new _ _
  have hr := code_recovered (X := X) (F := F) (caps := caps) (w := w.alloc (.cells #[.int .i64 (p : Int)] 105)) (Q := Q) (fun k q => by have := hR k q; simp; omega) hcf (fun W hW => hc W (hb.trans (hW.mono (by simp))))
  have HX : Hid _ := And.intro hb hp
  clear hc hb hp
  go_enter Tryz.func160, Tryz.ntmps160
  go_wp2_with fail
  refine hr.mono ?_
  rintro e w' ⟨a, w1, hq, hk, hb2, ha⟩
  have HQ : Hid (Q a w1 ∧ KeepX X w w1 ∧ But2 (w.heap.size + 1) w1 w') := ⟨hq, (KeepX.of_below HX.out.1).trans hk, by simpa using hb2⟩
  have P1 : Hid (w'.heap[w.heap.size]? = some (.cells #[.int .i64 (p : Int)] 105 (0, 0))) := (hb2.block _ (by have := hk.size; simp at this; omega) (by simp) (by simp; omega)).trans ((hk.block _ (by simp) (fun q => by have := hR _ q; omega)).trans HX.out.2)
  have c0 : w'.cell? ⟨w.heap.size, 0, none⟩ = some (.int .i64 (p : Int)) := cell_of_heap P1.out rfl
  clear hr hk hb2 hq
  cases a with
  | val n =>
    have ha : e = _ := ha
    subst ha
    go_wp2
    go_ret2
    exact ⟨.val n, w1, HQ.out.1, HQ.out.2.1, HQ.out.2.2, rfl⟩
  | fail n T x =>
    have ha : e = _ := ha
    subst ha
    have hh := code_hold p T x w'
    go_wp2_with fail
    refine hh.mono ?_
    rintro e w2 ⟨b, rfl, hh2, hb3⟩
    have HH : Hid _ := And.intro hh2 hb3
    clear hh hh2 hb3
    go_wp2
    go_ret2
    refine ⟨.fail n T x, w1, HQ.out.1, HQ.out.2.1, ?_, b, rfl, HH.out.1⟩
    exact HQ.out.2.2.below HH.out.2
  | pan u pv =>
    obtain ⟨ha, ho⟩ := ha
    subst ha
    have HO : Hid _ := ho
    have hh := code_hold p 149 (ptr w1.heap.size) w'
    clear ho
    go_wp2_with fail
    refine hh.mono ?_
    rintro e w2 ⟨b, rfl, hh2, hb3⟩
    have HH : Hid _ := And.intro hh2 hb3
    clear hh hh2 hb3
    go_wp2
    go_ret2
    refine ⟨.pan u pv, w1, HQ.out.1, HQ.out.2.1, HQ.out.2.2.below HH.out.2, b, _, rfl, HH.out.1, ?_⟩
    exact (HH.out.2.block _ (heap_lt HO.out)).trans HO.out
end Go.Proofs.YtaghcjpoihkpjaaGreatDoor
namespace Go.Proofs.YtaghcjpoihkpjaaGreatDoor
open Go.RowKit Go.Lib

/-- Why there is no value. -/
inductive Why where
  | divide
  | noData
  | failed
  | panic (n : Int)
/-- A value, or the place and the reason for which there is none. -/
inductive Res where
  | val (n : Int)
  | held (p : Nat) (why : Why)
/-- A reason in memory. -/
def WhyAt (A : Nat → Addr) (w : World) : Why → TypeId → Value → Prop
  | .divide, T, x => T = 349 ∧ x = .pointer (some (A 5))
  | .noData, T, x => T = 349 ∧ x = .pointer (some (A 6))
  | .failed, T, x => T = 150 ∧ ∃ c, x = ptr c
  | .panic n, T, x => T = 149 ∧ ∃ c, x = ptr c ∧ One w c (.iface 2 (.int .i64 n)) 155
theorem WhyAt.below {A : Nat → Addr} {w w' : World} {y : Why} {T : TypeId} {x : Value} (h : WhyAt A w y T x) (hb : Below w.heap.size w w') : WhyAt A w' y T x := by
  cases y with
  | divide => exact h
  | noData => exact h
  | failed => exact h
  | panic n =>
    obtain ⟨h1, c, h2, h3⟩ := h
    exact ⟨h1, c, h2, (hb.block c (heap_lt h3)).trans h3⟩
section
variable {σ : Type}
/-- How a call ends that works a value out. -/
def EvR (A : Nat → Addr) (S : σ → World → Prop) (r : Res × σ) (w : World) (e : Ending) : Prop :=
  match r with
  | (.val n, s) => e = .returned (.tuple #[.int .i64 n, .nilIface]) ∧ In64 n ∧ S s w
  | (.held p y, s) => ∃ b T x, e = .returned (.tuple #[.int .i64 0, .iface 111 (ptr b)]) ∧ HoldAt w b p T x ∧ WhyAt A w y T x ∧ S s w
/-- A function in memory works a value out, now and whenever nothing but block R was turned. -/
def Runs (A : Nat → Addr) (S : σ → World → Prop) (R : Nat) (lv mv : Value) (v : Value) (m : σ → Res × σ) (w0 : World) : Prop :=
  ∃ f caps, v = .func (.func f) #[] caps ∧ (∀ (args : Array Value) (w : World), (callFunc f (args ++ caps)).run Tryz.prog w = .ok (.enter f (args ++ caps)) w) ∧
    ∀ s w, Keep R w0 w → S s w → Calls Tryz.prog f (#[.agg #[lv, mv]] ++ caps) w fun e w' => Keep R w w' ∧ EvR A S (m s) w' e
theorem Runs.later {A : Nat → Addr} {S : σ → World → Prop} {R : Nat} {lv mv v : Value} {m : σ → Res × σ} {w0 w1 : World} (h : Runs A S R lv mv v m w0) (hk : Keep R w0 w1) : Runs A S R lv mv v m w1 := by
  obtain ⟨f, caps, h1, h2, h3⟩ := h
  exact ⟨f, caps, h1, h2, fun s w k hs => h3 s w (hk.trans k) hs⟩
/-- What is told of a state lasts while nothing that was there is turned. -/
def Stable (S : σ → World → Prop) : Prop := ∀ s w w', S s w → Below w.heap.size w w' → S s w'
variable {A : Nat → Addr} {S : σ → World → Prop} {R : Nat} {lv mv : Value} {w0 : World}
set_option maxRecDepth 1000000 in
theorem runs_num (hS : Stable S) {b : Nat} {n : Int} (hn : In64 n) (hb : One w0 b (.int .i64 n) 2) (hbR : b ≠ R) : Runs A S R lv mv (.func (.func 111) #[] #[ptr b]) (fun s => (.val n, s)) w0 := by
  refine ⟨_, _, rfl, fun args w => by rfl, fun s w hk hs => ?_⟩
  have hbw : One w b (.int .i64 n) 2 := hk.heap hb hbR
  have c0 : w.cell? ⟨b, 0, none⟩ = some (.int .i64 n) := cell_of_heap hbw rfl
  have lb := heap_lt hbw
  have HS : Hid _ := And.intro hs hS
  clear hs hS
  go_enter Tryz.func111, Tryz.ntmps111
  go_wp2
  go_ret2
  exact ⟨(Keep.refl R w).alloc _, rfl, hn, HS.out.2 _ _ _ HS.out.1 ((Below.refl _ _).alloc (Nat.le_refl _) _)⟩
/-- What is worked out of one value. -/
def onVal (m : σ → Res × σ) (k : Int → σ → Res × σ) : σ → Res × σ := fun s =>
  match m s with
  | (.val n, s1) => k n s1
  | r => r
theorem EvR.below (hS : Stable S) {r : Res × σ} {w w' : World} {e : Ending} (h : EvR A S r w e) (hb : Below w.heap.size w w') : EvR A S r w' e := by
  obtain ⟨r, s⟩ := r
  cases r with
  | val n => exact ⟨h.1, h.2.1, hS _ _ _ h.2.2 hb⟩
  | held p y =>
    obtain ⟨b, T, x, h1, h2, h3, h4⟩ := h
    exact ⟨b, T, x, h1, (hb.block b (heap_lt h2)).trans h2, h3.below hb, hS _ _ _ h4 hb⟩
set_option maxRecDepth 1000000 in
theorem runs_neg (hS : Stable S) {b : Nat} {va : Value} {m : σ → Res × σ} (hm : Runs A S R lv mv va m w0) (hb : One w0 b va 90) (hbR : b ≠ R) : Runs A S R lv mv (.func (.func 113) #[] #[ptr b]) (onVal m fun n s => (.val (clip (-n)), s)) w0 := by
  obtain ⟨f, caps, rfl, hcf, hm⟩ := hm
  refine ⟨_, _, rfl, fun args w => by rfl, fun s w hk hs => ?_⟩
  have hbw : One w b (.func (.func f) #[] caps) 90 := hk.heap hb hbR
  have c0 : w.cell? ⟨b, 0, none⟩ = some (.func (.func f) #[] caps) := cell_of_heap hbw rfl
  have lb := heap_lt hbw
  have K1 : Hid (Keep R w (w.alloc (.cells #[lv, mv] 102))) := (Keep.refl R w).alloc _
  have hm := hm s (w.alloc (.cells #[lv, mv] 102)) (hk.trans K1.out) (hS _ _ _ hs ((Below.refl _ _).alloc (Nat.le_refl _) _))
  have HS : Hid _ := hS
  have hcf := hcf #[.agg #[lv, mv]]
  clear hs hS hk hb
  go_enter Tryz.func113, Tryz.ntmps113
  go_wp2_with fail
  refine hm.mono ?_
  rintro e w1 ⟨hk1, he⟩
  have K2 : Hid (Keep R w w1) := K1.out.trans hk1
  clear hm hk1 K1
  generalize hM : m s = r1 at he
  obtain ⟨r, s1⟩ := r1
  have HM : Hid _ := hM
  clear hM
  cases r with
  | val n =>
    obtain ⟨rfl, hn, hs1⟩ := he
    have hng := b_Negative hn w1
    have HS1 : Hid _ := hs1
    clear hs1
    go_wp2_with fail
    refine hng.mono ?_
    rintro e w2 ⟨rfl, hw⟩
    have hw := hw.symm
    subst hw
    clear hng
    go_wp2
    go_ret2
    refine ⟨K2.out, ?_⟩
    simp only [onVal, HM.out]
    exact ⟨rfl, clip_in _, HS1.out⟩
  | held p y =>
    obtain ⟨b1, T, x, rfl, h2⟩ := he
    have H2 : Hid _ := h2
    clear h2
    go_wp2
    go_ret2
    refine ⟨K2.out, ?_⟩
    simp only [onVal, HM.out]
    exact ⟨b1, T, x, rfl, H2.out⟩
/-- Both, one behind the other. -/
def onBoth (m1 m2 : σ → Res × σ) (k : Int → Int → σ → Res × σ) : σ → Res × σ := onVal m1 fun x => onVal m2 fun y => k x y
/-- How both end. -/
def BothR (A : Nat → Addr) (S : σ → World → Prop) (m1 m2 : σ → Res × σ) (s : σ) (w : World) (e : Ending) : Prop :=
  (∃ x y s2, e = .returned (.tuple #[.int .i64 x, .int .i64 y, .nilIface]) ∧ In64 x ∧ In64 y ∧ S s2 w ∧ ∀ k, onBoth m1 m2 k s = k x y s2) ∨
  (∃ p why s2 b T x, e = .returned (.tuple #[.int .i64 0, .int .i64 0, .iface 111 (ptr b)]) ∧ HoldAt w b p T x ∧ WhyAt A w why T x ∧ S s2 w ∧ ∀ k, onBoth m1 m2 k s = (.held p why, s2))
set_option maxRecDepth 1000000 in
set_option maxHeartbeats 1000000 in
theorem code_both (hS : Stable S) {v1 v2 : Value} {m1 m2 : σ → Res × σ} (h1 : Runs A S R lv mv v1 m1 w0) (h2 : Runs A S R lv mv v2 m2 w0) {s : σ} {w : World} (hk : Keep R w0 w) (hR : R < w.heap.size) (hs : S s w) :
    Calls Tryz.prog 116 #[.agg #[lv, mv], v1, v2] w fun e w' => Keep R w w' ∧ BothR A S m1 m2 s w' e := by
  obtain ⟨f1, caps1, rfl, hcf1, h1⟩ := h1
  obtain ⟨f2, caps2, rfl, hcf2, h2⟩ := h2
  have K1 : Hid (Keep R w (w.alloc (.cells #[lv, mv] 102))) := (Keep.refl R w).alloc _
  have h1 := h1 s (w.alloc (.cells #[lv, mv] 102)) (hk.trans K1.out) (hS _ _ _ hs ((Below.refl _ _).alloc (Nat.le_refl _) _))
  have HS : Hid (Stable S) := hS
  have H2 : Hid _ := h2
  have HK : Hid _ := hk
  have hcf1 := hcf1 #[.agg #[lv, mv]]
  have hcf2 := hcf2 #[.agg #[lv, mv]]
  clear hs hS hk h2
  go_enter Tryz.func116, Tryz.ntmps116
  go_wp2_with fail
  refine h1.mono ?_
  rintro e w1 ⟨hk1, he⟩
  have K2 : Hid (Keep R w w1) := K1.out.trans hk1
  have B1 : Hid (w1.heap[w.heap.size]? = some (.cells #[lv, mv] 102 (0, 0))) := (hk1.block _ (by simp) (by omega)).trans (heap_alloc_new _ _)
  have c0 : w1.cell? ⟨w.heap.size, 0, none⟩ = some lv := cell_of_heap B1.out rfl
  have c1 : w1.cell? ⟨w.heap.size, 1, none⟩ = some mv := cell_of_heap B1.out rfl
  have lb := heap_lt B1.out
  clear h1 hk1 K1
  generalize hM : m1 s = r1 at he
  obtain ⟨r, s1⟩ := r1
  have HM : Hid _ := hM
  clear hM
  cases r with
  | held p y =>
    obtain ⟨b1, T, x, rfl, h2⟩ := he
    have H3 : Hid _ := h2
    clear h2
    go_wp2
    refine bodyPost_ret (v := .tuple #[.int .i64 0, .int .i64 0, .iface 111 (ptr b1)]) (by simp [results, Tryz.results116, go_sem]) rfl ?_
    refine ⟨K2.out, .inr ⟨p, y, s1, b1, T, x, rfl, H3.out.1, H3.out.2.1, H3.out.2.2, fun k => ?_⟩⟩
    simp only [onBoth, onVal, HM.out]
  | val x =>
    obtain ⟨rfl, hn, hs1⟩ := he
    have h2 := H2.out s1 w1 (HK.out.trans K2.out) hs1
    have HN : Hid (In64 x) := hn
    clear hs1 hn
    go_wp2_with fail
    refine h2.mono ?_
    rintro e w2 ⟨hk2, he⟩
    have K3 : Hid (Keep R w w2) := K2.out.trans hk2
    clear h2 hk2
    generalize hM2 : m2 s1 = r2 at he
    obtain ⟨r, s2⟩ := r2
    have HM2 : Hid _ := hM2
    clear hM2
    cases r with
    | held p y =>
      obtain ⟨b1, T, z, rfl, h2⟩ := he
      have H3 : Hid _ := h2
      clear h2
      go_wp2
      refine bodyPost_ret (v := .tuple #[.int .i64 0, .int .i64 0, .iface 111 (ptr b1)]) (by simp [results, Tryz.results116, go_sem]) rfl ?_
      refine ⟨K3.out, .inr ⟨p, y, s2, b1, T, z, rfl, H3.out.1, H3.out.2.1, H3.out.2.2, fun k => ?_⟩⟩
      simp only [onBoth, onVal, HM.out, HM2.out]
    | val y =>
      obtain ⟨rfl, hn, hs2⟩ := he
      have H3 : Hid _ := And.intro hn hs2
      clear hn hs2
      go_wp2
      refine bodyPost_ret (v := .tuple #[.int .i64 x, .int .i64 y, .nilIface]) (by simp [results, Tryz.results116, go_sem]) rfl ?_
      refine ⟨K3.out, .inl ⟨x, y, s2, rfl, HN.out, H3.out.1, H3.out.2, fun k => ?_⟩⟩
      simp only [onBoth, onVal, HM.out, HM2.out]
end
end Go.Proofs.YtaghcjpoihkpjaaGreatDoor
