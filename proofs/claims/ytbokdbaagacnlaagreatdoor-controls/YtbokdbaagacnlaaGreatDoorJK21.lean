/-
 A FUNCTION THAT IS HANDED IN, ASKED: bytecode.recovered, WALKED: what it answers, or the value with which it panics.
-/
import Derived.Test.YtbokdbaagacnlaaGreatDoorJK20
import Derived.Defers
import Derived.Recover
import Derived.Test.YtbokdbaagacnlaaGreatDoorJK2
import Derived.Test.YtbokdbaagacnlaaGreatDoorJK14
namespace Go.Proofs.YtbokdbaagacnlaaGreatDoor
open Go.RowKit Go.Lib
set_option maxRecDepth 1000000 in
theorem catch_panicking {p q : Nat} {x : Value} (u : TypeId) (pv : Value) (older : List PanicEntry) (w : World) (hp : One w p (.bool false) 4) (hq : One w q x 69) :
  CallsD Tryz.prog 247 #[ptr p, ptr q] (.panicking ({ v := .iface u pv, recovered := false } :: older)) w fun e u' w' =>
   e = .returned (.tuple #[]) ∧ u' = .panicking ({ v := .iface u pv, recovered := true } :: older) ∧ w' = (w.alloc (.cells #[.iface u pv] 205)).setCell ⟨q, 0, none⟩ (.iface 199 (ptr w.heap.size)) := by
 have c0 : w.cell? ⟨p, 0, none⟩ = some (.bool false) := cell_of_heap hp rfl
 have hq' := heap_alloc_old (o := .cells #[.iface u pv] 205) hq
 have c1 : (w.alloc (.cells #[.iface u pv] 205)).cell? ⟨q, 0, none⟩ = some x := cell_of_heap hq' rfl
 have z1 : (w.alloc (.cells #[.iface u pv] 205)).frozen? ⟨q, 0, none⟩ = false := frozen_of_heap hq'
 refine callsD_of_wpS Tryz.func247 rfl fun c₀ cs hu => ?_
 apply wpS_seq
 apply wpS_region
 simp [wpOpsS, go_sem, recoverD, hu, Tryz.ntmps247, Exit.thenS]
 apply wpS_seq
 apply wpS_region
 simp [wpOpsS, go_sem, c0, Exit.thenS]
 refine wpS_cond (t := true) (by simp [Act.eval, Array.replicate]) ?_
 simp only [if_true]
 apply wpS_region
 simp [wpOpsS, go_sem, c1, z1, bodyPostS, results, Tryz.results247]
set_option maxRecDepth 1000000 in
theorem catch_idle {p q : Nat} (w : World) (hp : One w p (.bool true) 4) :
  CallsD Tryz.prog 247 #[ptr p, ptr q] .returning w fun e u' w' => e = .returned (.tuple #[]) ∧ u' = .returning ∧ w' = w := by
 have c0 : w.cell? ⟨p, 0, none⟩ = some (.bool true) := cell_of_heap hp rfl
 refine callsD_of_wpS Tryz.func247 rfl fun c₀ cs hu => ?_
 apply wpS_seq
 apply wpS_region
 simp [wpOpsS, go_sem, recoverD, hu, Tryz.ntmps247, Exit.thenS]
 apply wpS_seq
 apply wpS_region
 simp [wpOpsS, go_sem, c0, Exit.thenS]
 refine wpS_cond (t := false) (by simp [Act.eval, Array.replicate]) ?_
 simp only [Bool.false_eq_true, if_false]
 refine wpS_of_wp (wp_skip ?_)
 cases c₀
 simp_all [bodyPostS, results, Tryz.results247]
inductive Ans where
 | val (n : Int)
 | fail (n : Int) (T : TypeId) (x : Value)
 | pan (u : TypeId) (pv : Value)
def AnsE : Ans → Ending → Prop
 | .val n, e => e = .returned (.tuple #[.int .i64 n, .nilIface])
 | .fail n T x, e => e = .returned (.tuple #[.int .i64 n, .iface T x])
 | .pan u pv, e => e = .panicked [{ v := .iface u pv, recovered := false }]
def AnsR : Ans → Nat → World → Ending → Prop
 | .val n, _, _, e => e = .returned (.tuple #[.int .i64 n, .nilIface])
 | .fail n T x, _, _, e => e = .returned (.tuple #[.int .i64 n, .iface T x])
 | .pan u pv, b, w, e => e = .returned (.tuple #[.int .i64 0, .iface 199 (ptr b)]) ∧ One w b (.iface u pv) 205
structure But2 (p : Nat) (w w' : World) : Prop where
 os : w'.os = w.os
 tape : w'.tape = w.tape
 output : w'.output = w.output
 size : w.heap.size ≤ w'.heap.size
 block : ∀ k, k < w.heap.size → k ≠ p → k ≠ p + 1 → w'.heap[k]? = w.heap[k]?
structure KeepX (X : Nat → Prop) (w w' : World) : Prop where
 os : w'.os = w.os
 tape : w'.tape = w.tape
 output : w'.output = w.output
 size : w.heap.size ≤ w'.heap.size
 block : ∀ k, k < w.heap.size → ¬ X k → w'.heap[k]? = w.heap[k]?
theorem KeepX.of_below {X : Nat → Prop} {w w' : World} (h : Below w.heap.size w w') : KeepX X w w' := ⟨h.os, h.tape, h.output, h.size, fun k lt _ => h.block k lt⟩
theorem KeepX.trans {X : Nat → Prop} {w w1 w2 : World} (h : KeepX X w w1) (k : KeepX X w1 w2) : KeepX X w w2 := ⟨k.os.trans h.os, k.tape.trans h.tape, k.output.trans h.output, Nat.le_trans h.size k.size, fun i lt n => (k.block i (Nat.lt_of_lt_of_le lt h.size) n).trans (h.block i lt n)⟩
theorem Keep.x {R : Nat} {w w' : World} (h : Keep R w w') : KeepX (· = R) w w' := ⟨h.os, h.tape, h.output, h.size, h.block⟩
theorem But2.below {p : Nat} {w w1 w2 : World} (h : But2 p w w1) (hb : Below w1.heap.size w1 w2) : But2 p w w2 := ⟨hb.os.trans h.os, hb.tape.trans h.tape, hb.output.trans h.output, Nat.le_trans h.size hb.size, fun k lt a b => (hb.block k (Nat.lt_of_lt_of_le lt h.size)).trans (h.block k lt a b)⟩
theorem block_at9 {w : World} {cs : Array Value} {T : TypeId} {n : Nat} (h : w.heap.size = n) : (w.alloc (.cells cs T)).heap[n]? = some (.cells cs T (0, 0)) := by subst h; exact block_new w cs T
set_option maxRecDepth 1000000 in
set_option maxHeartbeats 1000000 in
theorem code_recovered {X : Nat → Prop} {F : Nat} {caps : Array Value} {w : World} {Q : Ans → World → Prop} (hR : ∀ k, X k → k < w.heap.size) (hcf : ∀ w : World, (callFunc F caps).run Tryz.prog w = .ok (.enter F caps) w)
  (hc : ∀ W, Below w.heap.size w W → Calls Tryz.prog F caps W fun e w1 => ∃ a, AnsE a e ∧ KeepX X W w1 ∧ Q a w1) :
  Calls Tryz.prog 230 #[.func (.func F) #[] caps] w fun e w' => ∃ a w1, Q a w1 ∧ KeepX X w w1 ∧ But2 w.heap.size w1 w' ∧ AnsR a w1.heap.size w' e := by
 have hmf : ∀ (fn : Fn) (first cap : Array Value) (w : World), (Instr.makeFunc fn first cap).run Tryz.prog w = .ok (.func fn first cap) w := fun _ _ _ _ => rfl
 have hb : Below w.heap.size w ((w.alloc (.cells #[.nilIface] 69)).alloc (.cells #[.bool false] 4)) := ((Below.refl _ _).alloc (Nat.le_refl _) _).alloc (by simp) _
 have hc := hc _ hb
 have HB : Hid _ := hb
 clear hb
 go_enter_defers Tryz.func230, Tryz.ntmps230
 go_wp2_with fail
 refine hc.mono ?_
 rintro e w1 ⟨a, ha, hk, hq⟩
 have O1 : Hid (One w1 w.heap.size .nilIface 69) := (hk.block _ (by simp; omega) (fun q => by have := hR _ q; omega)).trans (heap_alloc_old (heap_alloc_new _ _))
 have O2 : Hid (One w1 (w.heap.size + 1) (.bool false) 4) := (hk.block _ (by simp) (fun q => by have := hR _ q; omega)).trans (by have := block_at9 (w := w.alloc (.cells #[.nilIface] 69)) (cs := #[.bool false]) (T := 4) (n := w.heap.size + 1) (by simp); exact this)
 have K1 : Hid (KeepX X w w1) := (KeepX.of_below HB.out).trans hk
 have HQ : Hid (Q a w1) := hq
 have c0 : w1.cell? ⟨w.heap.size, 0, none⟩ = some .nilIface := cell_of_heap O1.out rfl
 have c1 : w1.cell? ⟨w.heap.size + 1, 0, none⟩ = some (.bool false) := cell_of_heap O2.out rfl
 have z0 : w1.frozen? ⟨w.heap.size, 0, none⟩ = false := frozen_of_heap O1.out
 have z1 : w1.frozen? ⟨w.heap.size + 1, 0, none⟩ = false := frozen_of_heap O2.out
 have ls := heap_lt O2.out
 clear hc hk hq
 cases a with
 | val n =>
  have ha : e = .returned (.tuple #[.int .i64 n, .nilIface]) := ha
  subst ha
  go_wp2_with fail
  go_region
  all_goals
   go_wp2
   refine leaves_cons (f := 247) (args := #[.pointer (some ⟨w.heap.size + 1, 0, none⟩), .pointer (some ⟨w.heap.size, 0, none⟩)]) (by simp) (by simp [go_sem]) ?_
   refine (catch_idle (p := w.heap.size + 1) (q := w.heap.size) _ ?_).mono ?_
   ·exact heap_set_other (heap_set_same (heap_set_other O2.out (by simp))) (by simp)
   rintro e u' w'' ⟨rfl, rfl, rfl⟩
   simp [Leaves, settle, results, Tryz.results230, go_sem, c0]
   refine ⟨_, w1, HQ.out, K1.out, ⟨rfl, rfl, rfl, by simp, fun k _ h1 h2 => ?_⟩, rfl⟩
   exact (Below.heap_setCell _ _ _ k h1).trans ((Below.heap_setCell _ _ _ k h2).trans (Below.heap_setCell _ _ _ k h1))
 | fail n T x =>
  have ha : e = .returned (.tuple #[.int .i64 n, .iface T x]) := ha
  subst ha
  go_wp2_with fail
  go_region
  all_goals
   go_wp2
   refine leaves_cons (f := 247) (args := #[.pointer (some ⟨w.heap.size + 1, 0, none⟩), .pointer (some ⟨w.heap.size, 0, none⟩)]) (by simp) (by simp [go_sem]) ?_
   refine (catch_idle (p := w.heap.size + 1) (q := w.heap.size) _ ?_).mono ?_
   ·exact heap_set_other (heap_set_same (heap_set_other O2.out (by simp))) (by simp)
   rintro e u' w'' ⟨rfl, rfl, rfl⟩
   simp [Leaves, settle, results, Tryz.results230, go_sem, c0]
   refine ⟨_, w1, HQ.out, K1.out, ⟨rfl, rfl, rfl, by simp, fun k _ h1 h2 => ?_⟩, rfl⟩
   exact (Below.heap_setCell _ _ _ k h1).trans ((Below.heap_setCell _ _ _ k h2).trans (Below.heap_setCell _ _ _ k h1))
 | pan u pv =>
  have ha : e = .panicked [{ v := .iface u pv, recovered := false }] := ha
  subst ha
  go_wp2
  refine leaves_cons (f := 247) (args := #[.pointer (some ⟨w.heap.size + 1, 0, none⟩), .pointer (some ⟨w.heap.size, 0, none⟩)]) (by simp) (by simp [go_sem]) ?_
  refine (catch_panicking (p := w.heap.size + 1) (q := w.heap.size) u pv [] _ O2.out O1.out).mono ?_
  rintro e u' w'' ⟨rfl, rfl, rfl⟩
  have OE : One ((w1.alloc (.cells #[.iface u pv] 205)).setCell ⟨w.heap.size, 0, none⟩ (.iface 199 (ptr w1.heap.size))) w.heap.size (.iface 199 (ptr w1.heap.size)) 69 := heap_set_same (heap_alloc_old O1.out)
  have cE := cell_of_heap (i := 0) (v := .iface 199 (ptr w1.heap.size)) OE rfl
  simp [Leaves, settle, results, Tryz.results230, go_sem, cE]
  refine ⟨.pan u pv, w1, HQ.out, K1.out, ⟨rfl, rfl, rfl, by simp, fun k lt h1 _ => ?_⟩, rfl, ?_⟩
  ·exact (Below.heap_setCell _ _ _ k h1).trans (Below.heap_alloc _ _ k lt)
  ·exact heap_set_other (heap_alloc_new _ _) (by show w1.heap.size ≠ w.heap.size; omega)
end Go.Proofs.YtbokdbaagacnlaaGreatDoor
namespace Go.Proofs.YtbokdbaagacnlaaGreatDoor
open Go.RowKit Go.Lib
def HoldAt (w : World) (b p : Nat) (T : TypeId) (x : Value) : Prop := w.heap[b]? = some (.cells #[.int .i64 (p : Int), .iface T x] 198 (0, 0))
set_option maxRecDepth 1000000 in
theorem code_hold (p : Nat) (T : TypeId) (x : Value) (w : World) : Calls Tryz.prog 175 #[.agg #[.int .i64 (p : Int)], .iface T x] w fun e w' => ∃ b, e = .returned (.iface 159 (ptr b)) ∧ HoldAt w' b p T x ∧ Below w.heap.size w w' := by
 go_enter Tryz.func175, Tryz.ntmps175
 go_wp2
 go_ret
 exact ⟨_, rfl, block_at9 (by simp), ((Below.refl _ _).alloc (Nat.le_refl _) _).alloc (by simp) _⟩
def AskR : Ans → Nat → World → Ending → Prop
 | .val n, _, _, e => e = .returned (.tuple #[.int .i64 n, .nilIface])
 | .fail _ T x, p, w, e => ∃ b, e = .returned (.tuple #[.int .i64 0, .iface 159 (ptr b)]) ∧ HoldAt w b p T x
 | .pan u pv, p, w, e => ∃ b c, e = .returned (.tuple #[.int .i64 0, .iface 159 (ptr b)]) ∧ HoldAt w b p 199 (ptr c) ∧ One w c (.iface u pv) 205
set_option maxRecDepth 1000000 in
set_option maxHeartbeats 1000000 in
theorem code_ask {X : Nat → Prop} {F p : Nat} {caps : Array Value} {w : World} {Q : Ans → World → Prop} (hR : ∀ k, X k → k < w.heap.size) (hcf : ∀ w : World, (callFunc F caps).run Tryz.prog w = .ok (.enter F caps) w)
  (hc : ∀ W, Below w.heap.size w W → Calls Tryz.prog F caps W fun e w1 => ∃ a, AnsE a e ∧ KeepX X W w1 ∧ Q a w1) :
  Calls Tryz.prog 211 #[.agg #[.int .i64 (p : Int)], .func (.func F) #[] caps] w fun e w' => ∃ a w1, Q a w1 ∧ KeepX X w w1 ∧ But2 (w.heap.size + 1) w1 w' ∧ AskR a p w' e := by
 have hb : Below w.heap.size w (w.alloc (.cells #[.int .i64 (p : Int)] 153)) := (Below.refl _ _).alloc (Nat.le_refl _) _
 have hp : (w.alloc (.cells #[.int .i64 (p : Int)] 153)).heap[w.heap.size]? = some (.cells #[.int .i64 (p : Int)] 153 (0, 0)) := heap_alloc_new _ _
 have hr := code_recovered (X := X) (F := F) (caps := caps) (w := w.alloc (.cells #[.int .i64 (p : Int)] 153)) (Q := Q) (fun k q => by have := hR k q; simp; omega) hcf (fun W hW => hc W (hb.trans (hW.mono (by simp))))
 have HX : Hid _ := And.intro hb hp
 clear hc hb hp
 go_enter Tryz.func211, Tryz.ntmps211
 go_wp2_with fail
 refine hr.mono ?_
 rintro e w' ⟨a, w1, hq, hk, hb2, ha⟩
 have HQ : Hid (Q a w1 ∧ KeepX X w w1 ∧ But2 (w.heap.size + 1) w1 w') := ⟨hq, (KeepX.of_below HX.out.1).trans hk, by simpa using hb2⟩
 have P1 : Hid (w'.heap[w.heap.size]? = some (.cells #[.int .i64 (p : Int)] 153 (0, 0))) := (hb2.block _ (by have := hk.size; simp at this; omega) (by simp) (by simp; omega)).trans ((hk.block _ (by simp) (fun q => by have := hR _ q; omega)).trans HX.out.2)
 have c0 : w'.cell? ⟨w.heap.size, 0, none⟩ = some (.int .i64 (p : Int)) := cell_of_heap P1.out rfl
 clear hr hk hb2 hq
 cases a with
 | val n =>
  have ha : e = _ := ha
  subst ha
  go_wp2
  go_ret2
  exact ⟨.val n, w1, HQ.out.1, HQ.out.2.1, HQ.out.2.2, rfl⟩
 | fail n T x =>
  have ha : e = _ := ha
  subst ha
  have hh := code_hold p T x w'
  go_wp2_with fail
  refine hh.mono ?_
  rintro e w2 ⟨b, rfl, hh2, hb3⟩
  have HH : Hid _ := And.intro hh2 hb3
  clear hh hh2 hb3
  go_wp2
  go_ret2
  refine ⟨.fail n T x, w1, HQ.out.1, HQ.out.2.1, ?_, b, rfl, HH.out.1⟩
  exact HQ.out.2.2.below HH.out.2
 | pan u pv =>
  obtain ⟨ha, ho⟩ := ha
  subst ha
  have HO : Hid _ := ho
  have hh := code_hold p 199 (ptr w1.heap.size) w'
  clear ho
  go_wp2_with fail
  refine hh.mono ?_
  rintro e w2 ⟨b, rfl, hh2, hb3⟩
  have HH : Hid _ := And.intro hh2 hb3
  clear hh hh2 hb3
  go_wp2
  go_ret2
  refine ⟨.pan u pv, w1, HQ.out.1, HQ.out.2.1, HQ.out.2.2.below HH.out.2, b, _, rfl, HH.out.1, ?_⟩
  exact (HH.out.2.block _ (heap_lt HO.out)).trans HO.out
end Go.Proofs.YtbokdbaagacnlaaGreatDoor
namespace Go.Proofs.YtbokdbaagacnlaaGreatDoor
open Go.RowKit Go.Lib
inductive Why where
 | divide
 | noData
 | failed
 | panic (n : Int)
inductive Res where
 | val (n : Int)
 | held (p : Nat) (why : Why)
def WhyAt (A : Nat → Addr) (w : World) : Why → TypeId → Value → Prop
 | .divide, T, x => T = 416 ∧ x = .pointer (some (A 5))
 | .noData, T, x => T = 416 ∧ x = .pointer (some (A 6))
 | .failed, T, x => T = 200 ∧ ∃ c, x = ptr c
 | .panic n, T, x => T = 199 ∧ ∃ c, x = ptr c ∧ One w c (.iface 2 (.int .i64 n)) 205
theorem WhyAt.below {A : Nat → Addr} {w w' : World} {y : Why} {T : TypeId} {x : Value} (h : WhyAt A w y T x) (hb : Below w.heap.size w w') : WhyAt A w' y T x := by
 cases y with
 | divide => exact h
 | noData => exact h
 | failed => exact h
 | panic n =>
  obtain ⟨h1, c, h2, h3⟩ := h
  exact ⟨h1, c, h2, (hb.block c (heap_lt h3)).trans h3⟩
section
variable {σ : Type}
def EvR (A : Nat → Addr) (S : σ → World → Prop) (r : Res × σ) (w : World) (e : Ending) : Prop :=
 match r with
 | (.val n, s) => e = .returned (.tuple #[.int .i64 n, .nilIface]) ∧ In64 n ∧ S s w
 | (.held p y, s) => ∃ b T x, e = .returned (.tuple #[.int .i64 0, .iface 159 (ptr b)]) ∧ HoldAt w b p T x ∧ WhyAt A w y T x ∧ S s w
def Stable (S : σ → World → Prop) : Prop := ∀ s w w', S s w → Below w.heap.size w w' → S s w'
variable {A : Nat → Addr} {S : σ → World → Prop} {R : Nat} {lv mv : Value} {w0 : World}
def onVal (m : σ → Res × σ) (k : Int → σ → Res × σ) : σ → Res × σ := fun s =>
 match m s with
 | (.val n, s1) => k n s1
 | r => r
def onBoth (m1 m2 : σ → Res × σ) (k : Int → Int → σ → Res × σ) : σ → Res × σ := onVal m1 fun x => onVal m2 fun y => k x y
def BothR (A : Nat → Addr) (S : σ → World → Prop) (m1 m2 : σ → Res × σ) (s : σ) (w : World) (e : Ending) : Prop :=
 (∃ x y s2, e = .returned (.tuple #[.int .i64 x, .int .i64 y, .nilIface]) ∧ In64 x ∧ In64 y ∧ S s2 w ∧ ∀ k, onBoth m1 m2 k s = k x y s2) ∨
 (∃ p why s2 b T x, e = .returned (.tuple #[.int .i64 0, .int .i64 0, .iface 159 (ptr b)]) ∧ HoldAt w b p T x ∧ WhyAt A w why T x ∧ S s2 w ∧ ∀ k, onBoth m1 m2 k s = (.held p why, s2))
end
end Go.Proofs.YtbokdbaagacnlaaGreatDoor
namespace Go.Proofs.YtbokdbaagacnlaaGreatDoor
open Go.RowKit Go.Lib
def reck (k : Nat) (x y : Int) : Int :=
 if k = 43 then clip (x + y) else if k = 45 then clip (x - y) else if k = 42 then clip (x * y)
 else if k = 60 then (if x < y then 1 else 0) else if k = 62 then (if y < x then 1 else 0) else if k = 61 then (if x = y then 1 else 0) else 0
theorem reck_in (k : Nat) (x y : Int) : In64 (reck k x y) := by
 unfold reck
 repeat' split
 all_goals first | exact clip_in _ | (unfold In64; omega)
set_option maxRecDepth 1000000 in
theorem code_oneIf (b : Bool) (w : World) : Calls Tryz.prog 186 #[.bool b] w fun e w' => e = .returned (.int .i64 (if b = true then 1 else 0)) ∧ w' = w := by
 cases b <;>
 ·go_enter Tryz.func186, Tryz.ntmps186
  go_wp2
  go_ret
  exact ⟨rfl, rfl⟩
set_option maxRecDepth 1000000 in
theorem code_less (x y : Int) (w : World) : Calls Tryz.prog 185 #[.int .i64 x, .int .i64 y] w fun e w' => e = .returned (.int .i64 (if x < y then 1 else 0)) ∧ w' = w := by
 have ho := code_oneIf (decide (x < y)) w
 go_enter Tryz.func185, Tryz.ntmps185
 go_wp2_with fail
 refine ho.mono ?_
 rintro e w' ⟨rfl, hw⟩
 have hw := hw.symm
 subst hw
 go_wp2
 all_goals
  go_ret
  exact ⟨rfl, rfl⟩
set_option maxRecDepth 1000000 in
theorem code_more (x y : Int) (w : World) : Calls Tryz.prog 187 #[.int .i64 x, .int .i64 y] w fun e w' => e = .returned (.int .i64 (if y < x then 1 else 0)) ∧ w' = w := by
 have ho := code_oneIf (decide (y < x)) w
 go_enter Tryz.func187, Tryz.ntmps187
 go_wp2_with fail
 refine ho.mono ?_
 rintro e w' ⟨rfl, hw⟩
 have hw := hw.symm
 subst hw
 go_wp2
 all_goals
  go_ret
  exact ⟨rfl, rfl⟩
set_option maxRecDepth 1000000 in
theorem code_even (x y : Int) (w : World) : Calls Tryz.prog 188 #[.int .i64 x, .int .i64 y] w fun e w' => e = .returned (.int .i64 (if x = y then 1 else 0)) ∧ w' = w := by
 have ho := code_oneIf (x == y) w
 go_enter Tryz.func188, Tryz.ntmps188
 go_wp2_with fail
 refine ho.mono ?_
 rintro e w' ⟨rfl, hw⟩
 have hw := hw.symm
 subst hw
 go_wp2
 all_goals
  go_ret
  exact ⟨rfl, rfl⟩
set_option maxRecDepth 1000000 in
theorem reck_runs {k : Nat} (hk : k = 43 ∨ k = 45 ∨ k = 42 ∨ k = 60 ∨ k = 62 ∨ k = 61) : ∃ f, reckV k = .func (.func f) #[] #[] ∧ (∀ (args : Array Value) (w : World), (callFunc f args).run Tryz.prog w = .ok (.enter f args) w) ∧
  ∀ x y w, In64 x → In64 y → Calls Tryz.prog f #[.int .i64 x, .int .i64 y] w fun e w' => e = .returned (.int .i64 (reck k x y)) ∧ w' = w := by
 rcases hk with rfl | rfl | rfl | rfl | rfl | rfl
 ·exact ⟨_, rfl, fun _ _ => by rfl, fun x y w hx hy => b_Sum hx hy w⟩
 ·exact ⟨_, rfl, fun _ _ => by rfl, fun x y w hx hy => b_Difference hx hy w⟩
 ·exact ⟨_, rfl, fun _ _ => by rfl, fun x y w hx hy => b_Product hx hy w⟩
 ·exact ⟨_, rfl, fun _ _ => by rfl, fun x y w _ _ => code_less x y w⟩
 ·exact ⟨_, rfl, fun _ _ => by rfl, fun x y w _ _ => code_more x y w⟩
 ·exact ⟨_, rfl, fun _ _ => by rfl, fun x y w _ _ => code_even x y w⟩
section
variable {σ : Type} {A : Nat → Addr} {S : σ → World → Prop} {R : Nat} {lv mv : Value} {w0 : World}
end
end Go.Proofs.YtbokdbaagacnlaaGreatDoor
namespace Go.Proofs.YtbokdbaagacnlaaGreatDoor
open Go.RowKit Go.Lib
theorem heap_new8 {w : World} {o : Obj} {k : Nat} (h : k = w.heap.size) : (w.alloc o).heap[k]? = some o := by subst h; exact heap_alloc_new _ _
section
variable {R lo : Nat} {w : World} {r : RS}
set_option maxRecDepth 1000000 in
theorem mk_num (h : RSt R w r) (hlo : lo ≤ w.heap.size) (n : Int) : Calls Tryz.prog 126 #[.int .i64 n] w fun e w' => ∃ v, e = .returned v ∧ FuncV v ∧ RSt R w' r ∧ KR R w w' ∧ VOk R lo w' r (.num 0 n) v := by
 have hb : Below w.heap.size w (w.alloc (.cells #[.int .i64 n] 2)) := ((Below.refl _ _).alloc (by first | exact Nat.le_refl _ | (simp; done) | (simp; omega)) _)
 have HB : Hid _ := And.intro h hb
 have K : Hid (KR R w (w.alloc (.cells #[.int .i64 n] 2))) := KR.of_below hb h.lR
 have FR : Hid (∀ b, w.heap.size ≤ b → b < w.heap.size + 1 → Fr R lo (w.alloc (.cells #[.int .i64 n] 2)) b) := fun b h1 h2 => And.intro (h.free_new hb h1 (by first | (simp; done) | (simp; omega))) (Nat.le_trans hlo h1)
 have H : Hid (RSt R w r) := h
 clear h hb
 have hmf : ∀ (fn : Fn) (first cap : Array Value) (w : World), (Instr.makeFunc fn first cap).run Tryz.prog w = .ok (.func fn first cap) w := fun _ _ _ _ => rfl
 go_enter Tryz.func126, Tryz.ntmps126
 go_wp2
 go_ret
 refine ⟨_, rfl, .inr ⟨_, _, _, rfl⟩, HB.out.1.later HB.out.2, K.out, fun hw => ?_⟩
 unfold VNode
 exact ⟨_, rfl, FR.out _ (by first | exact Nat.le_refl _ | omega | (simp; done) | (simp; omega)) (by first | omega | (simp; done) | (simp; omega)), heap_new8 (by simp)⟩
set_option maxRecDepth 1000000 in
theorem mk_neg (h : RSt R w r) (hlo : lo ≤ w.heap.size) {a : Tree} {va : Value} (hfa : FuncV va) (hva : VOk R lo w r a va) : Calls Tryz.prog 128 #[va] w fun e w' => ∃ v, e = .returned v ∧ FuncV v ∧ RSt R w' r ∧ KR R w w' ∧ VOk R lo w' r (.neg 0 a) v := by
 have hb : Below w.heap.size w (w.alloc (.cells #[va] 143)) := ((Below.refl _ _).alloc (by first | exact Nat.le_refl _ | (simp; done) | (simp; omega)) _)
 have HB : Hid _ := And.intro h hb
 have K : Hid (KR R w (w.alloc (.cells #[va] 143))) := KR.of_below hb h.lR
 have FR : Hid (∀ b, w.heap.size ≤ b → b < w.heap.size + 1 → Fr R lo (w.alloc (.cells #[va] 143)) b) := fun b h1 h2 => And.intro (h.free_new hb h1 (by first | (simp; done) | (simp; omega))) (Nat.le_trans hlo h1)
 have H : Hid (RSt R w r) := h
 clear h hb
 have hmf : ∀ (fn : Fn) (first cap : Array Value) (w : World), (Instr.makeFunc fn first cap).run Tryz.prog w = .ok (.func fn first cap) w := fun _ _ _ _ => rfl
 have HVa : Hid _ := hva
 clear hva
 rcases hfa with rfl | ⟨_, _, _, rfl⟩
 all_goals
  go_enter Tryz.func128, Tryz.ntmps128
  go_wp2
  go_ret
  refine ⟨_, rfl, .inr ⟨_, _, _, rfl⟩, HB.out.1.later HB.out.2, K.out, fun hw => ?_⟩
  unfold VNode
  exact ⟨_, _, rfl, FR.out _ (by first | exact Nat.le_refl _ | omega | (simp; done) | (simp; omega)) (by first | omega | (simp; done) | (simp; omega)), heap_new8 (by simp), (HVa.out hw).moves K.out.vmoves⟩
set_option maxRecDepth 1000000 in
theorem mk_quot (h : RSt R w r) (hlo : lo ≤ w.heap.size) (p : Nat) {a c : Tree} {va vc : Value} (hfa : FuncV va) (hfc : FuncV vc) (hva : VOk R lo w r a va) (hvc : VOk R lo w r c vc) : Calls Tryz.prog 130 #[.agg #[.int .i64 p], va, vc] w fun e w' => ∃ v, e = .returned v ∧ FuncV v ∧ RSt R w' r ∧ KR R w w' ∧ VOk R lo w' r (.bin 47 p a c) v := by
 have hb : Below w.heap.size w (((w.alloc (.cells #[.int .i64 p] 153)).alloc (.cells #[va] 143)).alloc (.cells #[vc] 143)) := ((((Below.refl _ _).alloc (by first | exact Nat.le_refl _ | (simp; done) | (simp; omega)) _).alloc (by first | exact Nat.le_refl _ | (simp; done) | (simp; omega)) _).alloc (by first | exact Nat.le_refl _ | (simp; done) | (simp; omega)) _)
 have HB : Hid _ := And.intro h hb
 have K : Hid (KR R w (((w.alloc (.cells #[.int .i64 p] 153)).alloc (.cells #[va] 143)).alloc (.cells #[vc] 143))) := KR.of_below hb h.lR
 have FR : Hid (∀ b, w.heap.size ≤ b → b < w.heap.size + 3 → Fr R lo (((w.alloc (.cells #[.int .i64 p] 153)).alloc (.cells #[va] 143)).alloc (.cells #[vc] 143)) b) := fun b h1 h2 => And.intro (h.free_new hb h1 (by first | (simp; done) | (simp; omega))) (Nat.le_trans hlo h1)
 have H : Hid (RSt R w r) := h
 clear h hb
 have hmf : ∀ (fn : Fn) (first cap : Array Value) (w : World), (Instr.makeFunc fn first cap).run Tryz.prog w = .ok (.func fn first cap) w := fun _ _ _ _ => rfl
 have HVa : Hid _ := hva
 clear hva
 have HVc : Hid _ := hvc
 clear hvc
 rcases hfa with rfl | ⟨_, _, _, rfl⟩ <;> rcases hfc with rfl | ⟨_, _, _, rfl⟩
 all_goals
  go_enter Tryz.func130, Tryz.ntmps130
  go_wp2
  go_ret
  refine ⟨_, rfl, .inr ⟨_, _, _, rfl⟩, HB.out.1.later HB.out.2, K.out, fun hw => ?_⟩
  unfold VNode
  exact ⟨_, _, _, _, _, rfl, ⟨FR.out _ (by first | exact Nat.le_refl _ | omega | (simp; done) | (simp; omega)) (by first | omega | (simp; done) | (simp; omega)), FR.out _ (by first | exact Nat.le_refl _ | omega | (simp; done) | (simp; omega)) (by first | omega | (simp; done) | (simp; omega)), FR.out _ (by first | exact Nat.le_refl _ | omega | (simp; done) | (simp; omega)) (by first | omega | (simp; done) | (simp; omega))⟩, heap_alloc_old (heap_new8 (by simp)), heap_new8 (by simp), heap_alloc_old (heap_alloc_old (heap_new8 (by simp))), (HVa.out hw).moves K.out.vmoves, (HVc.out hw).moves K.out.vmoves⟩
set_option maxRecDepth 1000000 in
theorem mk_pair (h : RSt R w r) (hlo : lo ≤ w.heap.size) (k : Nat) (hk : k ≠ 47) {a c : Tree} {va vc : Value} (hfa : FuncV va) (hfc : FuncV vc) (hva : VOk R lo w r a va) (hvc : VOk R lo w r c vc) : Calls Tryz.prog 135 #[reckV k, va, vc] w fun e w' => ∃ v, e = .returned v ∧ FuncV v ∧ RSt R w' r ∧ KR R w w' ∧ VOk R lo w' r (.bin k 0 a c) v := by
 have hb : Below w.heap.size w (((w.alloc (.cells #[reckV k] 189)).alloc (.cells #[va] 143)).alloc (.cells #[vc] 143)) := ((((Below.refl _ _).alloc (by first | exact Nat.le_refl _ | (simp; done) | (simp; omega)) _).alloc (by first | exact Nat.le_refl _ | (simp; done) | (simp; omega)) _).alloc (by first | exact Nat.le_refl _ | (simp; done) | (simp; omega)) _)
 have HB : Hid _ := And.intro h hb
 have K : Hid (KR R w (((w.alloc (.cells #[reckV k] 189)).alloc (.cells #[va] 143)).alloc (.cells #[vc] 143))) := KR.of_below hb h.lR
 have FR : Hid (∀ b, w.heap.size ≤ b → b < w.heap.size + 3 → Fr R lo (((w.alloc (.cells #[reckV k] 189)).alloc (.cells #[va] 143)).alloc (.cells #[vc] 143)) b) := fun b h1 h2 => And.intro (h.free_new hb h1 (by first | (simp; done) | (simp; omega))) (Nat.le_trans hlo h1)
 have H : Hid (RSt R w r) := h
 clear h hb
 have hmf : ∀ (fn : Fn) (first cap : Array Value) (w : World), (Instr.makeFunc fn first cap).run Tryz.prog w = .ok (.func fn first cap) w := fun _ _ _ _ => rfl
 have HVa : Hid _ := hva
 clear hva
 have HVc : Hid _ := hvc
 clear hvc
 have hfr : FuncV (reckV k) := by rcases reck_nil k with ⟨-, F, e⟩ | ⟨-, e⟩ <;> rw [e]; exact .inr ⟨_, _, _, rfl⟩; exact .inl rfl
 generalize hRK : reckV k = rk at *
 have HRK : Hid (reckV k = rk) := hRK
 clear hRK
 rcases hfr with rfl | ⟨_, _, _, rfl⟩ <;> rcases hfa with rfl | ⟨_, _, _, rfl⟩ <;> rcases hfc with rfl | ⟨_, _, _, rfl⟩
 all_goals
  go_enter Tryz.func135, Tryz.ntmps135
  go_wp2
  go_ret
  refine ⟨_, rfl, .inr ⟨_, _, _, rfl⟩, HB.out.1.later HB.out.2, K.out, fun hw => ?_⟩
  unfold VNode
  exact ⟨_, _, _, _, _, by rw [if_neg hk]; rfl, ⟨FR.out _ (by first | exact Nat.le_refl _ | omega | (simp; done) | (simp; omega)) (by first | omega | (simp; done) | (simp; omega)), FR.out _ (by first | exact Nat.le_refl _ | omega | (simp; done) | (simp; omega)) (by first | omega | (simp; done) | (simp; omega)), FR.out _ (by first | exact Nat.le_refl _ | omega | (simp; done) | (simp; omega)) (by first | omega | (simp; done) | (simp; omega))⟩, heap_alloc_old (heap_new8 (by simp)), heap_new8 (by simp), by rw [if_neg hk, if_neg hk, HRK.out]; exact heap_alloc_old (heap_alloc_old (heap_new8 (by simp))), (HVa.out hw).moves K.out.vmoves, (HVc.out hw).moves K.out.vmoves⟩
set_option maxRecDepth 1000000 in
theorem mk_ite (h : RSt R w r) (hlo : lo ≤ w.heap.size) {a c d : Tree} {va vc vd : Value} (hfa : FuncV va) (hfc : FuncV vc) (hfd : FuncV vd) (hva : VOk R lo w r a va) (hvc : VOk R lo w r c vc) (hvd : VOk R lo w r d vd) : Calls Tryz.prog 131 #[va, vc, vd] w fun e w' => ∃ v, e = .returned v ∧ FuncV v ∧ RSt R w' r ∧ KR R w w' ∧ VOk R lo w' r (.ite 0 a c d) v := by
 have hb : Below w.heap.size w (((w.alloc (.cells #[va] 143)).alloc (.cells #[vc] 143)).alloc (.cells #[vd] 143)) := ((((Below.refl _ _).alloc (by first | exact Nat.le_refl _ | (simp; done) | (simp; omega)) _).alloc (by first | exact Nat.le_refl _ | (simp; done) | (simp; omega)) _).alloc (by first | exact Nat.le_refl _ | (simp; done) | (simp; omega)) _)
 have HB : Hid _ := And.intro h hb
 have K : Hid (KR R w (((w.alloc (.cells #[va] 143)).alloc (.cells #[vc] 143)).alloc (.cells #[vd] 143))) := KR.of_below hb h.lR
 have FR : Hid (∀ b, w.heap.size ≤ b → b < w.heap.size + 3 → Fr R lo (((w.alloc (.cells #[va] 143)).alloc (.cells #[vc] 143)).alloc (.cells #[vd] 143)) b) := fun b h1 h2 => And.intro (h.free_new hb h1 (by first | (simp; done) | (simp; omega))) (Nat.le_trans hlo h1)
 have H : Hid (RSt R w r) := h
 clear h hb
 have hmf : ∀ (fn : Fn) (first cap : Array Value) (w : World), (Instr.makeFunc fn first cap).run Tryz.prog w = .ok (.func fn first cap) w := fun _ _ _ _ => rfl
 have HVa : Hid _ := hva
 clear hva
 have HVc : Hid _ := hvc
 clear hvc
 have HVd : Hid _ := hvd
 clear hvd
 rcases hfa with rfl | ⟨_, _, _, rfl⟩ <;> rcases hfc with rfl | ⟨_, _, _, rfl⟩ <;> rcases hfd with rfl | ⟨_, _, _, rfl⟩
 all_goals
  go_enter Tryz.func131, Tryz.ntmps131
  go_wp2
  go_ret
  refine ⟨_, rfl, .inr ⟨_, _, _, rfl⟩, HB.out.1.later HB.out.2, K.out, fun hw => ?_⟩
  unfold VNode
  exact ⟨_, _, _, _, _, _, rfl, ⟨FR.out _ (by first | exact Nat.le_refl _ | omega | (simp; done) | (simp; omega)) (by first | omega | (simp; done) | (simp; omega)), FR.out _ (by first | exact Nat.le_refl _ | omega | (simp; done) | (simp; omega)) (by first | omega | (simp; done) | (simp; omega)), FR.out _ (by first | exact Nat.le_refl _ | omega | (simp; done) | (simp; omega)) (by first | omega | (simp; done) | (simp; omega))⟩, heap_alloc_old (heap_alloc_old (heap_new8 (by simp))), heap_alloc_old (heap_new8 (by simp)), heap_new8 (by simp), (HVa.out hw).moves K.out.vmoves, (HVc.out hw).moves K.out.vmoves, (HVd.out hw).moves K.out.vmoves⟩
set_option maxRecDepth 1000000 in
theorem mk_meas (h : RSt R w r) (hlo : lo ≤ w.heap.size) (p : Nat) (wd m : ByteArray) (n : Int) : Calls Tryz.prog 180 #[.agg #[.int .i64 p], .string wd, .string m, .int .i64 n] w fun e w' => ∃ v, e = .returned v ∧ FuncV v ∧ RSt R w' r ∧ KR R w w' ∧ VOk R lo w' r (.meas p wd m n) v := by
 have hb : Below w.heap.size w ((((w.alloc (.cells #[.int .i64 p] 153)).alloc (.cells #[.string wd] 9)).alloc (.cells #[.string m] 9)).alloc (.cells #[.int .i64 n] 2)) := (((((Below.refl _ _).alloc (by first | exact Nat.le_refl _ | (simp; done) | (simp; omega)) _).alloc (by first | exact Nat.le_refl _ | (simp; done) | (simp; omega)) _).alloc (by first | exact Nat.le_refl _ | (simp; done) | (simp; omega)) _).alloc (by first | exact Nat.le_refl _ | (simp; done) | (simp; omega)) _)
 have HB : Hid _ := And.intro h hb
 have K : Hid (KR R w ((((w.alloc (.cells #[.int .i64 p] 153)).alloc (.cells #[.string wd] 9)).alloc (.cells #[.string m] 9)).alloc (.cells #[.int .i64 n] 2))) := KR.of_below hb h.lR
 have FR : Hid (∀ b, w.heap.size ≤ b → b < w.heap.size + 4 → Fr R lo ((((w.alloc (.cells #[.int .i64 p] 153)).alloc (.cells #[.string wd] 9)).alloc (.cells #[.string m] 9)).alloc (.cells #[.int .i64 n] 2)) b) := fun b h1 h2 => And.intro (h.free_new hb h1 (by first | (simp; done) | (simp; omega))) (Nat.le_trans hlo h1)
 have H : Hid (RSt R w r) := h
 clear h hb
 have hmf : ∀ (fn : Fn) (first cap : Array Value) (w : World), (Instr.makeFunc fn first cap).run Tryz.prog w = .ok (.func fn first cap) w := fun _ _ _ _ => rfl
 go_enter Tryz.func180, Tryz.ntmps180
 go_wp2
 go_ret
 refine ⟨_, rfl, .inr ⟨_, _, _, rfl⟩, HB.out.1.later HB.out.2, K.out, fun hw => ?_⟩
 unfold VNode
 exact ⟨_, _, _, _, rfl, ⟨FR.out _ (by first | exact Nat.le_refl _ | omega | (simp; done) | (simp; omega)) (by first | omega | (simp; done) | (simp; omega)), FR.out _ (by first | exact Nat.le_refl _ | omega | (simp; done) | (simp; omega)) (by first | omega | (simp; done) | (simp; omega)), FR.out _ (by first | exact Nat.le_refl _ | omega | (simp; done) | (simp; omega)) (by first | omega | (simp; done) | (simp; omega)), FR.out _ (by first | exact Nat.le_refl _ | omega | (simp; done) | (simp; omega)) (by first | omega | (simp; done) | (simp; omega))⟩, heap_alloc_old (heap_alloc_old (heap_alloc_old (heap_new8 (by simp)))), heap_alloc_old (heap_alloc_old (heap_new8 (by simp))), heap_alloc_old (heap_new8 (by simp)), heap_new8 (by simp)⟩
set_option maxRecDepth 1000000 in
theorem mk_probe (h : RSt R w r) (hlo : lo ≤ w.heap.size) (p : Nat) (wd : ByteArray) {ts : List Tree} {vs : List Value} {ao : Option Addr} {ln cp : Nat} (hvp : r.wrong = false → (w.ownsRow 0 143 1 (.slice ao ln cp) vs.length vs ∧ ∀ g, (Value.slice ao ln cp).ownBlock = some g → Fr R lo w g) ∧ VNodes (Fr R lo w) w ts vs) : Calls Tryz.prog 181 #[.agg #[.int .i64 p], .string wd, .slice ao ln cp] w fun e w' => ∃ v, e = .returned v ∧ FuncV v ∧ RSt R w' r ∧ KR R w w' ∧ VOk R lo w' r (.probe p wd ts) v := by
 have hb : Below w.heap.size w (((w.alloc (.cells #[.int .i64 p] 153)).alloc (.cells #[.string wd] 9)).alloc (.cells #[.slice ao ln cp] 351)) := ((((Below.refl _ _).alloc (by first | exact Nat.le_refl _ | (simp; done) | (simp; omega)) _).alloc (by first | exact Nat.le_refl _ | (simp; done) | (simp; omega)) _).alloc (by first | exact Nat.le_refl _ | (simp; done) | (simp; omega)) _)
 have HB : Hid _ := And.intro h hb
 have K : Hid (KR R w (((w.alloc (.cells #[.int .i64 p] 153)).alloc (.cells #[.string wd] 9)).alloc (.cells #[.slice ao ln cp] 351))) := KR.of_below hb h.lR
 have FR : Hid (∀ b, w.heap.size ≤ b → b < w.heap.size + 3 → Fr R lo (((w.alloc (.cells #[.int .i64 p] 153)).alloc (.cells #[.string wd] 9)).alloc (.cells #[.slice ao ln cp] 351)) b) := fun b h1 h2 => And.intro (h.free_new hb h1 (by first | (simp; done) | (simp; omega))) (Nat.le_trans hlo h1)
 have H : Hid (RSt R w r) := h
 have HVP : Hid _ := hvp
 clear h hb hvp
 have hmf : ∀ (fn : Fn) (first cap : Array Value) (w : World), (Instr.makeFunc fn first cap).run Tryz.prog w = .ok (.func fn first cap) w := fun _ _ _ _ => rfl
 go_enter Tryz.func181, Tryz.ntmps181
 go_wp2
 go_ret
 refine ⟨_, rfl, .inr ⟨_, _, _, rfl⟩, HB.out.1.later HB.out.2, K.out, fun hw => ?_⟩
 unfold VNode
 exact ⟨_, _, _, _, _, rfl, ⟨FR.out _ (by first | exact Nat.le_refl _ | omega | (simp; done) | (simp; omega)) (by first | omega | (simp; done) | (simp; omega)), FR.out _ (by first | exact Nat.le_refl _ | omega | (simp; done) | (simp; omega)) (by first | omega | (simp; done) | (simp; omega)), FR.out _ (by first | exact Nat.le_refl _ | omega | (simp; done) | (simp; omega)) (by first | omega | (simp; done) | (simp; omega))⟩, heap_new8 (by simp), heap_alloc_old (heap_alloc_old (heap_new8 (by simp))), heap_alloc_old (heap_new8 (by simp)), ⟨owns_of_block (HVP.out hw).1.1 fun g hg => (K.out.vmoves g ((HVP.out hw).1.2 g hg)).2, fun g hg => (K.out.vmoves g ((HVP.out hw).1.2 g hg)).1⟩, (HVP.out hw).2.moves K.out.vmoves⟩
end
end Go.Proofs.YtbokdbaagacnlaaGreatDoor
