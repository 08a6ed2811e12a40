/-
  A FUNCTION THAT IS HANDED IN, ASKED: bytecode.hold and bytecode.ask, WALKED.
-/
import Derived.Test.YtaghcjpoihkpjaaGreatDoorJ21
import Derived.Test.YtaghcjpoihkpjaaGreatDoorJ1
import Derived.Test.YtaghcjpoihkpjaaGreatDoorProg
namespace Go.Proofs.YtaghcjpoihkpjaaGreatDoor
open Go.RowKit Go.Lib

/-- A held error in memory. -/
def HoldAt (w : World) (b p : Nat) (T : TypeId) (x : Value) : Prop := w.heap[b]? = some (.cells #[.int .i64 (p : Int), .iface T x] 148 (0, 0))
set_option maxRecDepth 1000000 in
theorem code_hold (p : Nat) (T : TypeId) (x : Value) (w : World) : Calls Tryz.prog 117 #[.agg #[.int .i64 (p : Int)], .iface T x] w fun e w' => ∃ b, e = .returned (.iface 111 (ptr b)) ∧ HoldAt w' b p T x ∧ Below w.heap.size w w' := by
  go_enter Tryz.func117, Tryz.ntmps117
  go_wp2
  go_ret
  exact ⟨_, rfl, block_at9 (by simp), ((Below.refl _ _).alloc (Nat.le_refl _) _).alloc (by simp) _⟩
/-- What ask makes of an answer. -/
def AskR : Ans → Nat → World → Ending → Prop
  | .val n, _, _, e => e = .returned (.tuple #[.int .i64 n, .nilIface])
  | .fail _ T x, p, w, e => ∃ b, e = .returned (.tuple #[.int .i64 0, .iface 111 (ptr b)]) ∧ HoldAt w b p T x
  | .pan u pv, p, w, e => ∃ b c, e = .returned (.tuple #[.int .i64 0, .iface 111 (ptr b)]) ∧ HoldAt w b p 149 (ptr c) ∧ One w c (.iface u pv) 155
set_option maxRecDepth 1000000 in
set_option maxHeartbeats 1000000 in
theorem code_ask {X : Nat → Prop} {F p : Nat} {caps : Array Value} {w : World} {Q : Ans → World → Prop} (hR : ∀ k, X k → k < w.heap.size) (hcf : ∀ w : World, (callFunc F caps).run Tryz.prog w = .ok (.enter F caps) w)
    (hc : ∀ W, Below w.heap.size w W → Calls Tryz.prog F caps W fun e w1 => ∃ a, AnsE a e ∧ KeepX X W w1 ∧ Q a w1) :
    Calls Tryz.prog 160 #[.agg #[.int .i64 (p : Int)], .func (.func F) #[] caps] w fun e w' => ∃ a w1, Q a w1 ∧ KeepX X w w1 ∧ But2 (w.heap.size + 1) w1 w' ∧ AskR a p w' e := by
  have hb : Below w.heap.size w (w.alloc (.cells #[.int .i64 (p : Int)] 105)) := (Below.refl _ _).alloc (Nat.le_refl _) _
  have hp : (w.alloc (.cells #[.int .i64 (p : Int)] 105)).heap[w.heap.size]? = some (.cells #[.int .i64 (p : Int)] 105 (0, 0)) := heap_alloc_new _ _
  have hr := code_recovered (X := X) (F := F) (caps := caps) (w := w.alloc (.cells #[.int .i64 (p : Int)] 105)) (Q := Q) (fun k q => by have := hR k q; simp; omega) hcf (fun W hW => hc W (hb.trans (hW.mono (by simp))))
  have HX : Hid _ := And.intro hb hp
  clear hc hb hp
  go_enter Tryz.func160, Tryz.ntmps160
  go_wp2_with fail
  refine hr.mono ?_
  rintro e w' ⟨a, w1, hq, hk, hb2, ha⟩
  have HQ : Hid (Q a w1 ∧ KeepX X w w1 ∧ But2 (w.heap.size + 1) w1 w') := ⟨hq, (KeepX.of_below HX.out.1).trans hk, by simpa using hb2⟩
  have P1 : Hid (w'.heap[w.heap.size]? = some (.cells #[.int .i64 (p : Int)] 105 (0, 0))) := (hb2.block _ (by have := hk.size; simp at this; omega) (by simp) (by simp; omega)).trans ((hk.block _ (by simp) (fun q => by have := hR _ q; omega)).trans HX.out.2)
  have c0 : w'.cell? ⟨w.heap.size, 0, none⟩ = some (.int .i64 (p : Int)) := cell_of_heap P1.out rfl
  clear hr hk hb2 hq
  cases a with
  | val n =>
    have ha : e = _ := ha
    subst ha
    go_wp2
    go_ret2
    exact ⟨.val n, w1, HQ.out.1, HQ.out.2.1, HQ.out.2.2, rfl⟩
  | fail n T x =>
    have ha : e = _ := ha
    subst ha
    have hh := code_hold p T x w'
    go_wp2_with fail
    refine hh.mono ?_
    rintro e w2 ⟨b, rfl, hh2, hb3⟩
    have HH : Hid _ := And.intro hh2 hb3
    clear hh hh2 hb3
    go_wp2
    go_ret2
    refine ⟨.fail n T x, w1, HQ.out.1, HQ.out.2.1, ?_, b, rfl, HH.out.1⟩
    exact HQ.out.2.2.below HH.out.2
  | pan u pv =>
    obtain ⟨ha, ho⟩ := ha
    subst ha
    have HO : Hid _ := ho
    have hh := code_hold p 149 (ptr w1.heap.size) w'
    clear ho
    go_wp2_with fail
    refine hh.mono ?_
    rintro e w2 ⟨b, rfl, hh2, hb3⟩
    have HH : Hid _ := And.intro hh2 hb3
    clear hh hh2 hb3
    go_wp2
    go_ret2
    refine ⟨.pan u pv, w1, HQ.out.1, HQ.out.2.1, HQ.out.2.2.below HH.out.2, b, _, rfl, HH.out.1, ?_⟩
    exact (HH.out.2.block _ (heap_lt HO.out)).trans HO.out
end Go.Proofs.YtaghcjpoihkpjaaGreatDoor
namespace Go.Proofs.YtaghcjpoihkpjaaGreatDoor
open Go.RowKit

/-- A number of the program. -/
def In64 (x : Int) : Prop := -9223372036854775808 ≤ x ∧ x ≤ 9223372036854775807
/-- What ends at the ends. -/
def clip (x : Int) : Int := if x < -9223372036854775808 then -9223372036854775808 else if 9223372036854775807 < x then 9223372036854775807 else x
theorem clip_in (x : Int) : In64 (clip x) := by unfold clip In64; repeat' split <;> omega
theorem clip_of {x : Int} (h : In64 x) : clip x = x := by unfold clip; rw [if_neg (by have := h.1; omega), if_neg (by have := h.2; omega)]
theorem clip_low {x : Int} (h : x < -9223372036854775808) : clip x = -9223372036854775808 := by unfold clip; rw [if_pos h]
theorem clip_high {x : Int} (h : 9223372036854775807 < x) : clip x = 9223372036854775807 := by unfold clip; rw [if_neg (by omega), if_pos h]

theorem clip_is {x v : Int} (h : (x < -9223372036854775808 ∧ v = -9223372036854775808) ∨ (9223372036854775807 < x ∧ v = 9223372036854775807) ∨ (-9223372036854775808 ≤ x ∧ x ≤ 9223372036854775807 ∧ v = x)) : v = clip x := by
  unfold clip
  repeat' split <;> omega
set_option maxRecDepth 1000000 in
theorem b_Sum {x y : Int} (hx : In64 x) (hy : In64 y) (w : World) : Calls Tryz.prog 125 #[.int .i64 x, .int .i64 y] w fun e w' => e = .returned (.int .i64 (clip (x + y))) ∧ w' = w := by
  obtain ⟨x1, x2⟩ := hx
  obtain ⟨y1, y2⟩ := hy
  go_enter Tryz.func125, Tryz.ntmps125
  go_wp2
  all_goals
    go_ret
    exact ⟨congrArg (fun z => Ending.returned (.int .i64 z)) (clip_is (by omega)), rfl⟩
set_option maxRecDepth 1000000 in
theorem b_Difference {x y : Int} (hx : In64 x) (hy : In64 y) (w : World) : Calls Tryz.prog 126 #[.int .i64 x, .int .i64 y] w fun e w' => e = .returned (.int .i64 (clip (x - y))) ∧ w' = w := by
  obtain ⟨x1, x2⟩ := hx
  obtain ⟨y1, y2⟩ := hy
  go_enter Tryz.func126, Tryz.ntmps126
  go_wp2
  all_goals
    go_ret
    exact ⟨congrArg (fun z => Ending.returned (.int .i64 z)) (clip_is (by omega)), rfl⟩
set_option maxRecDepth 1000000 in
theorem b_Negative {x : Int} (hx : In64 x) (w : World) : Calls Tryz.prog 114 #[.int .i64 x] w fun e w' => e = .returned (.int .i64 (clip (-x))) ∧ w' = w := by
  have hd := b_Difference (x := 0) (by unfold In64; omega) hx w
  rw [Int.zero_sub] at hd
  go_enter Tryz.func114, Tryz.ntmps114
  go_wp2_with fail
  refine hd.mono ?_
  rintro e w' ⟨rfl, hw⟩
  have hw := hw.symm
  subst hw
  go_wp2
  go_ret
  exact ⟨rfl, rfl⟩
/-- The quotient, rounded down. -/
def quot (x y : Int) : Int := if y = -1 then clip (-x) else if x.tmod y ≠ 0 ∧ decide (x < 0) ≠ decide (y < 0) then wrap64 (wrap64 (x.tdiv y) - 1) else wrap64 (x.tdiv y)
set_option maxRecDepth 1000000 in
theorem b_Quotient {x y : Int} (hx : In64 x) (hy : In64 y) (h0 : y ≠ 0) (w : World) : Calls Tryz.prog 118 #[.int .i64 x, .int .i64 y] w fun e w' => e = .returned (.int .i64 (quot x y)) ∧ w' = w := by
  have hn := b_Negative hx w
  obtain ⟨x1, x2⟩ := hx
  obtain ⟨y1, y2⟩ := hy
  go_enter Tryz.func118, Tryz.ntmps118
  by_cases h : y = -1
  · subst h
    go_wp2_with fail
    refine hn.mono ?_
    rintro e w' ⟨rfl, hw⟩
    have hw := hw.symm
    subst hw
    go_wp2
    go_ret
    exact ⟨by rw [quot, if_pos rfl]; rfl, rfl⟩
  · have hm : (y == -1) = false := by rw [beq_eq_false_iff_ne]; exact h
    go_wp2
    all_goals
      go_ret
      refine ⟨?_, rfl⟩
      rw [quot, if_neg h]
      simp_all
theorem wrap64_id {n : Int} (h : In64 n) : wrap64 n = n := by unfold wrap64; unfold In64 at h; omega
theorem wrap64_range (n : Int) : In64 (wrap64 n) := by unfold wrap64 In64; omega
theorem quot_in (x y : Int) : In64 (quot x y) := by
  unfold quot
  split
  · exact clip_in _
  · split <;> exact wrap64_range _
theorem tdiv_in {p x : Int} (hp : In64 p) (h0 : x ≠ 0) (h1 : x ≠ -1) : In64 (p.tdiv x) := by
  by_cases hx : x = 1
  · subst hx
    rw [Int.tdiv_one]
    exact hp
  have h2 : 2 ≤ x.natAbs := by omega
  have h3 : (p.tdiv x).natAbs = p.natAbs / x.natAbs := Int.natAbs_tdiv p x
  have h4 := Nat.div_mul_le_self p.natAbs x.natAbs
  have h5 := Nat.mul_le_mul_left (p.natAbs / x.natAbs) h2
  rw [← h3] at h4 h5
  unfold In64 at hp ⊢
  omega
/-- A product that was wrapped round does not lead back. -/
theorem mul_back {x y : Int} (hx : In64 x) (_hy : In64 y) (h0 : x ≠ 0) (h1 : x ≠ -1) : wrap64 ((wrap64 (x * y)).tdiv x) = y ↔ In64 (x * y) := by
  have hd := tdiv_in (wrap64_range (x * y)) h0 h1
  rw [wrap64_id hd]
  constructor
  · intro h
    have h2 := Int.tmod_add_mul_tdiv (wrap64 (x * y)) x
    rw [h] at h2
    have h3 := Int.natAbs_tmod (wrap64 (x * y)) x
    have h4 := Nat.mod_lt (wrap64 (x * y)).natAbs (show 0 < x.natAbs by omega)
    rw [← h3] at h4
    have h5 := wrap64_range (x * y)
    generalize (wrap64 (x * y)).tmod x = m at *
    have h6 : ∃ k : Int, wrap64 (x * y) = x * y + k * 18446744073709551616 := ⟨-((x * y + 9223372036854775808) / 18446744073709551616), by unfold wrap64; omega⟩
    obtain ⟨k, h6⟩ := h6
    unfold In64 at *
    generalize x * y = z at *
    omega
  · intro h
    rw [wrap64_id h, Int.mul_tdiv_cancel_left _ h0]
theorem clip_mul {x y : Int} (h : ¬ In64 (x * y)) : clip (x * y) = if decide (x < 0) = decide (y < 0) then 9223372036854775807 else -9223372036854775808 := by
  have hs : (decide (x < 0) = decide (y < 0) → 0 ≤ x * y) ∧ (decide (x < 0) ≠ decide (y < 0) → x * y ≤ 0) := by
    by_cases hx : x < 0 <;> by_cases hy : y < 0 <;> simp [hx, hy]
    · exact Int.mul_nonneg_of_nonpos_of_nonpos (by omega) (by omega)
    · exact Int.mul_nonpos_of_nonpos_of_nonneg (by omega) (by omega)
    · exact Int.mul_nonpos_of_nonneg_of_nonpos (by omega) (by omega)
    · exact Int.mul_nonneg (by omega) (by omega)
  unfold In64 at h
  split
  · next e => exact clip_high (by have := hs.1 e; omega)
  · next e => exact clip_low (by have := hs.2 e; omega)
set_option maxRecDepth 1000000 in
theorem b_Product {x y : Int} (hx : In64 x) (hy : In64 y) (w : World) : Calls Tryz.prog 127 #[.int .i64 x, .int .i64 y] w fun e w' => e = .returned (.int .i64 (clip (x * y))) ∧ w' = w := by
  have hb := mul_back hx hy
  have hc := clip_mul (x := x) (y := y)
  by_cases h0 : x = 0
  · subst h0
    clear hb hc
    go_enter Tryz.func127, Tryz.ntmps127
    go_wp2
    go_ret
    exact ⟨by rw [Int.zero_mul]; rfl, rfl⟩
  by_cases h1 : x = -1
  · subst h1
    clear hb hc
    by_cases h2 : y = -9223372036854775808
    · subst h2
      have hz : wrap64 9223372036854775808 = -9223372036854775808 := by unfold wrap64; omega
      go_enter Tryz.func127, Tryz.ntmps127
      go_wp2
      go_ret
      exact ⟨congrArg (fun z => Ending.returned (.int .i64 z)) (clip_is (by omega)), rfl⟩
    · have hw : wrap64 (-y) = -y := wrap64_id (by unfold In64 at *; omega)
      have hw2 : wrap64 y = y := wrap64_id hy
      have hn : (y == -9223372036854775808) = false := by rw [beq_eq_false_iff_ne]; exact h2
      have HY : Hid (In64 y) := hy
      clear hy
      go_enter Tryz.func127, Tryz.ntmps127
      go_wp2
      go_ret
      exact ⟨congrArg (fun z => Ending.returned (.int .i64 z)) (clip_is (by have := HY.out.1; have := HY.out.2; omega)), rfl⟩
  have hb := hb h0 h1
  have hwy : wrap64 y = y := wrap64_id hy
  have e0 : (x == 0) = false := by rw [beq_eq_false_iff_ne]; exact h0
  have e1 : (x == -1) = false := by rw [beq_eq_false_iff_ne]; exact h1
  clear hx hy
  by_cases hI : In64 (x * y)
  · have hq := hb.2 hI
    have hw : wrap64 (x * y) = x * y := wrap64_id hI
    rw [hw] at hq
    have HI : Hid _ := clip_of hI
    clear hb hc hI
    go_enter Tryz.func127, Tryz.ntmps127
    go_wp2
    go_ret
    exact ⟨congrArg (fun z => Ending.returned (.int .i64 z)) (hw.trans HI.out.symm), rfl⟩
  · have hq : (wrap64 ((wrap64 (x * y)).tdiv x) == y) = false := by rw [beq_eq_false_iff_ne]; exact fun e => hI (hb.1 e)
    have HC : Hid _ := hc hI
    clear hb hc hI
    go_enter Tryz.func127, Tryz.ntmps127
    go_wp2
    all_goals
      go_ret
      refine ⟨?_, rfl⟩
      rw [HC.out]
      simp_all
end Go.Proofs.YtaghcjpoihkpjaaGreatDoor
namespace Go.Proofs.YtaghcjpoihkpjaaGreatDoor
open Go.RowKit Go.Lib

/-- Why there is no value. -/
inductive Why where
  | divide
  | noData
  | failed
  | panic (n : Int)
/-- A value, or the place and the reason for which there is none. -/
inductive Res where
  | val (n : Int)
  | held (p : Nat) (why : Why)
/-- A reason in memory. -/
def WhyAt (A : Nat → Addr) (w : World) : Why → TypeId → Value → Prop
  | .divide, T, x => T = 349 ∧ x = .pointer (some (A 5))
  | .noData, T, x => T = 349 ∧ x = .pointer (some (A 6))
  | .failed, T, x => T = 150 ∧ ∃ c, x = ptr c
  | .panic n, T, x => T = 149 ∧ ∃ c, x = ptr c ∧ One w c (.iface 2 (.int .i64 n)) 155
theorem WhyAt.below {A : Nat → Addr} {w w' : World} {y : Why} {T : TypeId} {x : Value} (h : WhyAt A w y T x) (hb : Below w.heap.size w w') : WhyAt A w' y T x := by
  cases y with
  | divide => exact h
  | noData => exact h
  | failed => exact h
  | panic n =>
    obtain ⟨h1, c, h2, h3⟩ := h
    exact ⟨h1, c, h2, (hb.block c (heap_lt h3)).trans h3⟩
section
variable {σ : Type}
/-- How a call ends that works a value out. -/
def EvR (A : Nat → Addr) (S : σ → World → Prop) (r : Res × σ) (w : World) (e : Ending) : Prop :=
  match r with
  | (.val n, s) => e = .returned (.tuple #[.int .i64 n, .nilIface]) ∧ In64 n ∧ S s w
  | (.held p y, s) => ∃ b T x, e = .returned (.tuple #[.int .i64 0, .iface 111 (ptr b)]) ∧ HoldAt w b p T x ∧ WhyAt A w y T x ∧ S s w
/-- A function in memory works a value out, now and whenever nothing but block R was turned. -/
def Runs (A : Nat → Addr) (S : σ → World → Prop) (R : Nat) (lv mv : Value) (v : Value) (m : σ → Res × σ) (w0 : World) : Prop :=
  ∃ f caps, v = .func (.func f) #[] caps ∧ (∀ (args : Array Value) (w : World), (callFunc f (args ++ caps)).run Tryz.prog w = .ok (.enter f (args ++ caps)) w) ∧
    ∀ s w, Keep R w0 w → S s w → Calls Tryz.prog f (#[.agg #[lv, mv]] ++ caps) w fun e w' => Keep R w w' ∧ EvR A S (m s) w' e
theorem Runs.later {A : Nat → Addr} {S : σ → World → Prop} {R : Nat} {lv mv v : Value} {m : σ → Res × σ} {w0 w1 : World} (h : Runs A S R lv mv v m w0) (hk : Keep R w0 w1) : Runs A S R lv mv v m w1 := by
  obtain ⟨f, caps, h1, h2, h3⟩ := h
  exact ⟨f, caps, h1, h2, fun s w k hs => h3 s w (hk.trans k) hs⟩
/-- What is told of a state lasts while nothing that was there is turned. -/
def Stable (S : σ → World → Prop) : Prop := ∀ s w w', S s w → Below w.heap.size w w' → S s w'
variable {A : Nat → Addr} {S : σ → World → Prop} {R : Nat} {lv mv : Value} {w0 : World}
set_option maxRecDepth 1000000 in
theorem runs_num (hS : Stable S) {b : Nat} {n : Int} (hn : In64 n) (hb : One w0 b (.int .i64 n) 2) (hbR : b ≠ R) : Runs A S R lv mv (.func (.func 111) #[] #[ptr b]) (fun s => (.val n, s)) w0 := by
  refine ⟨_, _, rfl, fun args w => by rfl, fun s w hk hs => ?_⟩
  have hbw : One w b (.int .i64 n) 2 := hk.heap hb hbR
  have c0 : w.cell? ⟨b, 0, none⟩ = some (.int .i64 n) := cell_of_heap hbw rfl
  have lb := heap_lt hbw
  have HS : Hid _ := And.intro hs hS
  clear hs hS
  go_enter Tryz.func111, Tryz.ntmps111
  go_wp2
  go_ret2
  exact ⟨(Keep.refl R w).alloc _, rfl, hn, HS.out.2 _ _ _ HS.out.1 ((Below.refl _ _).alloc (Nat.le_refl _) _)⟩
/-- What is worked out of one value. -/
def onVal (m : σ → Res × σ) (k : Int → σ → Res × σ) : σ → Res × σ := fun s =>
  match m s with
  | (.val n, s1) => k n s1
  | r => r
theorem EvR.below (hS : Stable S) {r : Res × σ} {w w' : World} {e : Ending} (h : EvR A S r w e) (hb : Below w.heap.size w w') : EvR A S r w' e := by
  obtain ⟨r, s⟩ := r
  cases r with
  | val n => exact ⟨h.1, h.2.1, hS _ _ _ h.2.2 hb⟩
  | held p y =>
    obtain ⟨b, T, x, h1, h2, h3, h4⟩ := h
    exact ⟨b, T, x, h1, (hb.block b (heap_lt h2)).trans h2, h3.below hb, hS _ _ _ h4 hb⟩
set_option maxRecDepth 1000000 in
theorem runs_neg (hS : Stable S) {b : Nat} {va : Value} {m : σ → Res × σ} (hm : Runs A S R lv mv va m w0) (hb : One w0 b va 90) (hbR : b ≠ R) : Runs A S R lv mv (.func (.func 113) #[] #[ptr b]) (onVal m fun n s => (.val (clip (-n)), s)) w0 := by
  obtain ⟨f, caps, rfl, hcf, hm⟩ := hm
  refine ⟨_, _, rfl, fun args w => by rfl, fun s w hk hs => ?_⟩
  have hbw : One w b (.func (.func f) #[] caps) 90 := hk.heap hb hbR
  have c0 : w.cell? ⟨b, 0, none⟩ = some (.func (.func f) #[] caps) := cell_of_heap hbw rfl
  have lb := heap_lt hbw
  have K1 : Hid (Keep R w (w.alloc (.cells #[lv, mv] 102))) := (Keep.refl R w).alloc _
  have hm := hm s (w.alloc (.cells #[lv, mv] 102)) (hk.trans K1.out) (hS _ _ _ hs ((Below.refl _ _).alloc (Nat.le_refl _) _))
  have HS : Hid _ := hS
  have hcf := hcf #[.agg #[lv, mv]]
  clear hs hS hk hb
  go_enter Tryz.func113, Tryz.ntmps113
  go_wp2_with fail
  refine hm.mono ?_
  rintro e w1 ⟨hk1, he⟩
  have K2 : Hid (Keep R w w1) := K1.out.trans hk1
  clear hm hk1 K1
  generalize hM : m s = r1 at he
  obtain ⟨r, s1⟩ := r1
  have HM : Hid _ := hM
  clear hM
  cases r with
  | val n =>
    obtain ⟨rfl, hn, hs1⟩ := he
    have hng := b_Negative hn w1
    have HS1 : Hid _ := hs1
    clear hs1
    go_wp2_with fail
    refine hng.mono ?_
    rintro e w2 ⟨rfl, hw⟩
    have hw := hw.symm
    subst hw
    clear hng
    go_wp2
    go_ret2
    refine ⟨K2.out, ?_⟩
    simp only [onVal, HM.out]
    exact ⟨rfl, clip_in _, HS1.out⟩
  | held p y =>
    obtain ⟨b1, T, x, rfl, h2⟩ := he
    have H2 : Hid _ := h2
    clear h2
    go_wp2
    go_ret2
    refine ⟨K2.out, ?_⟩
    simp only [onVal, HM.out]
    exact ⟨b1, T, x, rfl, H2.out⟩
/-- Both, one behind the other. -/
def onBoth (m1 m2 : σ → Res × σ) (k : Int → Int → σ → Res × σ) : σ → Res × σ := onVal m1 fun x => onVal m2 fun y => k x y
/-- How both end. -/
def BothR (A : Nat → Addr) (S : σ → World → Prop) (m1 m2 : σ → Res × σ) (s : σ) (w : World) (e : Ending) : Prop :=
  (∃ x y s2, e = .returned (.tuple #[.int .i64 x, .int .i64 y, .nilIface]) ∧ In64 x ∧ In64 y ∧ S s2 w ∧ ∀ k, onBoth m1 m2 k s = k x y s2) ∨
  (∃ p why s2 b T x, e = .returned (.tuple #[.int .i64 0, .int .i64 0, .iface 111 (ptr b)]) ∧ HoldAt w b p T x ∧ WhyAt A w why T x ∧ S s2 w ∧ ∀ k, onBoth m1 m2 k s = (.held p why, s2))
set_option maxRecDepth 1000000 in
set_option maxHeartbeats 1000000 in
theorem code_both (hS : Stable S) {v1 v2 : Value} {m1 m2 : σ → Res × σ} (h1 : Runs A S R lv mv v1 m1 w0) (h2 : Runs A S R lv mv v2 m2 w0) {s : σ} {w : World} (hk : Keep R w0 w) (hR : R < w.heap.size) (hs : S s w) :
    Calls Tryz.prog 116 #[.agg #[lv, mv], v1, v2] w fun e w' => Keep R w w' ∧ BothR A S m1 m2 s w' e := by
  obtain ⟨f1, caps1, rfl, hcf1, h1⟩ := h1
  obtain ⟨f2, caps2, rfl, hcf2, h2⟩ := h2
  have K1 : Hid (Keep R w (w.alloc (.cells #[lv, mv] 102))) := (Keep.refl R w).alloc _
  have h1 := h1 s (w.alloc (.cells #[lv, mv] 102)) (hk.trans K1.out) (hS _ _ _ hs ((Below.refl _ _).alloc (Nat.le_refl _) _))
  have HS : Hid (Stable S) := hS
  have H2 : Hid _ := h2
  have HK : Hid _ := hk
  have hcf1 := hcf1 #[.agg #[lv, mv]]
  have hcf2 := hcf2 #[.agg #[lv, mv]]
  clear hs hS hk h2
  go_enter Tryz.func116, Tryz.ntmps116
  go_wp2_with fail
  refine h1.mono ?_
  rintro e w1 ⟨hk1, he⟩
  have K2 : Hid (Keep R w w1) := K1.out.trans hk1
  have B1 : Hid (w1.heap[w.heap.size]? = some (.cells #[lv, mv] 102 (0, 0))) := (hk1.block _ (by simp) (by omega)).trans (heap_alloc_new _ _)
  have c0 : w1.cell? ⟨w.heap.size, 0, none⟩ = some lv := cell_of_heap B1.out rfl
  have c1 : w1.cell? ⟨w.heap.size, 1, none⟩ = some mv := cell_of_heap B1.out rfl
  have lb := heap_lt B1.out
  clear h1 hk1 K1
  generalize hM : m1 s = r1 at he
  obtain ⟨r, s1⟩ := r1
  have HM : Hid _ := hM
  clear hM
  cases r with
  | held p y =>
    obtain ⟨b1, T, x, rfl, h2⟩ := he
    have H3 : Hid _ := h2
    clear h2
    go_wp2
    refine bodyPost_ret (v := .tuple #[.int .i64 0, .int .i64 0, .iface 111 (ptr b1)]) (by simp [results, Tryz.results116, go_sem]) rfl ?_
    refine ⟨K2.out, .inr ⟨p, y, s1, b1, T, x, rfl, H3.out.1, H3.out.2.1, H3.out.2.2, fun k => ?_⟩⟩
    simp only [onBoth, onVal, HM.out]
  | val x =>
    obtain ⟨rfl, hn, hs1⟩ := he
    have h2 := H2.out s1 w1 (HK.out.trans K2.out) hs1
    have HN : Hid (In64 x) := hn
    clear hs1 hn
    go_wp2_with fail
    refine h2.mono ?_
    rintro e w2 ⟨hk2, he⟩
    have K3 : Hid (Keep R w w2) := K2.out.trans hk2
    clear h2 hk2
    generalize hM2 : m2 s1 = r2 at he
    obtain ⟨r, s2⟩ := r2
    have HM2 : Hid _ := hM2
    clear hM2
    cases r with
    | held p y =>
      obtain ⟨b1, T, z, rfl, h2⟩ := he
      have H3 : Hid _ := h2
      clear h2
      go_wp2
      refine bodyPost_ret (v := .tuple #[.int .i64 0, .int .i64 0, .iface 111 (ptr b1)]) (by simp [results, Tryz.results116, go_sem]) rfl ?_
      refine ⟨K3.out, .inr ⟨p, y, s2, b1, T, z, rfl, H3.out.1, H3.out.2.1, H3.out.2.2, fun k => ?_⟩⟩
      simp only [onBoth, onVal, HM.out, HM2.out]
    | val y =>
      obtain ⟨rfl, hn, hs2⟩ := he
      have H3 : Hid _ := And.intro hn hs2
      clear hn hs2
      go_wp2
      refine bodyPost_ret (v := .tuple #[.int .i64 x, .int .i64 y, .nilIface]) (by simp [results, Tryz.results116, go_sem]) rfl ?_
      refine ⟨K3.out, .inl ⟨x, y, s2, rfl, HN.out, H3.out.1, H3.out.2, fun k => ?_⟩⟩
      simp only [onBoth, onVal, HM.out, HM2.out]
end
end Go.Proofs.YtaghcjpoihkpjaaGreatDoor
