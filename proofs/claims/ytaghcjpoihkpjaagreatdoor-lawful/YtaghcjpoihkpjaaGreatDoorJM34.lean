/-
  A FUNCTION IN MEMORY WORKS A VALUE OUT, with so many asks to spend (what is asked is written down, and texts have an end).
-/
import Derived.Test.YtaghcjpoihkpjaaGreatDoorJM19
namespace Go.Proofs.YtaghcjpoihkpjaaGreatDoor
open Go.RowKit Go.Lib

section
variable {σ : Type}
/-- What is told of a state where so many asks are left. -/
structure Fuel (N : Nat) (SF : Nat → σ → World → Prop) : Prop where
  base : ∀ k s w, SF k s w → N ≤ w.heap.size
  same : ∀ k s w w', SF k s w → Below N w w' → SF k s w'
  less : ∀ k s w, SF (k + 1) s w → SF k s w
theorem Fuel.lessBy {N : Nat} {SF : Nat → σ → World → Prop} (h : Fuel N SF) : ∀ (a k : Nat) (s : σ) (w : World), SF (k + a) s w → SF k s w
  | 0, _, _, _, q => q
  | a + 1, k, s, w, q => h.lessBy a k s w (h.less _ _ _ q)
theorem Fuel.stable {N : Nat} {SF : Nat → σ → World → Prop} (h : Fuel N SF) (k : Nat) : Stable (SF k) := fun s w w' hs hb => h.same k s w w' hs (hb.mono (h.base k s w hs))
/-- A function in memory works a value out and spends at most a asks, now and whenever nothing but block R was turned. -/
def RunsF (A : Nat → Addr) (SF : Nat → σ → World → Prop) (a : Nat) (R : Nat) (lv mv : Value) (v : Value) (m : σ → Res × σ) (w0 : World) : Prop :=
  ∃ f caps, v = .func (.func f) #[] caps ∧ (∀ (args : Array Value) (w : World), (callFunc f (args ++ caps)).run Tryz.prog w = .ok (.enter f (args ++ caps)) w) ∧
    ∀ k s w, Keep R w0 w → SF (k + a) s w → Calls Tryz.prog f (#[.agg #[lv, mv]] ++ caps) w fun e w' => Keep R w w' ∧ EvR A (SF k) (m s) w' e
theorem RunsF.more {N a b : Nat} {A : Nat → Addr} {SF : Nat → σ → World → Prop} {R : Nat} {lv mv v : Value} {m : σ → Res × σ} {w0 : World} (hS : Fuel N SF) (h : RunsF A SF a R lv mv v m w0) (hab : a ≤ b) : RunsF A SF b R lv mv v m w0 := by
  obtain ⟨f, caps, h1, h2, h3⟩ := h
  exact ⟨f, caps, h1, h2, fun k s w kp hs => h3 k s w kp (hS.lessBy (b - a) _ _ _ (by rw [show k + a + (b - a) = k + b by omega]; exact hs))⟩
variable {A : Nat → Addr} {SF : Nat → σ → World → Prop} {N R : Nat} {lv mv : Value} {w0 : World}
set_option maxRecDepth 1000000 in
theorem runsF_num (hS : Fuel N SF) {b : Nat} {n : Int} (hn : In64 n) (hb : One w0 b (.int .i64 n) 2) (hbR : b ≠ R) : RunsF A SF 0 R lv mv (.func (.func 111) #[] #[ptr b]) (fun s => (.val n, s)) w0 := by
  refine ⟨_, _, rfl, fun args w => by rfl, fun k s w hk hs => ?_⟩
  have hbw : One w b (.int .i64 n) 2 := hk.heap hb hbR
  have c0 : w.cell? ⟨b, 0, none⟩ = some (.int .i64 n) := cell_of_heap hbw rfl
  have lb := heap_lt hbw
  have hs : SF k s w := hs
  have hS := hS.stable k
  have HS : Hid _ := And.intro hs hS
  clear hs hS
  go_enter Tryz.func111, Tryz.ntmps111
  go_wp2
  go_ret2
  exact ⟨(Keep.refl R w).alloc _, rfl, hn, HS.out.2 _ _ _ HS.out.1 ((Below.refl _ _).alloc (Nat.le_refl _) _)⟩
set_option maxRecDepth 1000000 in
theorem runsF_neg (hS : Fuel N SF) {a b : Nat} {va : Value} {m : σ → Res × σ} (hm : RunsF A SF a R lv mv va m w0) (hb : One w0 b va 90) (hbR : b ≠ R) : RunsF A SF a R lv mv (.func (.func 113) #[] #[ptr b]) (onVal m fun n s => (.val (clip (-n)), s)) w0 := by
  obtain ⟨f, caps, rfl, hcf, hm⟩ := hm
  refine ⟨_, _, rfl, fun args w => by rfl, fun k s w hk hs => ?_⟩
  have hbw : One w b (.func (.func f) #[] caps) 90 := hk.heap hb hbR
  have c0 : w.cell? ⟨b, 0, none⟩ = some (.func (.func f) #[] caps) := cell_of_heap hbw rfl
  have lb := heap_lt hbw
  have K1 : Hid (Keep R w (w.alloc (.cells #[lv, mv] 102))) := (Keep.refl R w).alloc _
  have hm := hm k s (w.alloc (.cells #[lv, mv] 102)) (hk.trans K1.out) (hS.stable _ _ _ _ hs ((Below.refl _ _).alloc (Nat.le_refl _) _))
  have hcf := hcf #[.agg #[lv, mv]]
  clear hs hS hk hb
  go_enter Tryz.func113, Tryz.ntmps113
  go_wp2_with fail
  refine hm.mono ?_
  rintro e w1 ⟨hk1, he⟩
  have K2 : Hid (Keep R w w1) := K1.out.trans hk1
  clear hm hk1 K1
  generalize hM : m s = r1 at he
  obtain ⟨r, s1⟩ := r1
  have HM : Hid _ := hM
  clear hM
  cases r with
  | val n =>
    obtain ⟨rfl, hn, hs1⟩ := he
    have hng := b_Negative hn w1
    have HS1 : Hid _ := hs1
    clear hs1
    go_wp2_with fail
    refine hng.mono ?_
    rintro e w2 ⟨rfl, hw⟩
    have hw := hw.symm
    subst hw
    clear hng
    go_wp2
    go_ret2
    refine ⟨K2.out, ?_⟩
    simp only [onVal, HM.out]
    exact ⟨rfl, clip_in _, HS1.out⟩
  | held p y =>
    obtain ⟨b1, T, x, rfl, h2⟩ := he
    have H2 : Hid _ := h2
    clear h2
    go_wp2
    go_ret2
    refine ⟨K2.out, ?_⟩
    simp only [onVal, HM.out]
    exact ⟨b1, T, x, rfl, H2.out⟩
set_option maxRecDepth 1000000 in
set_option maxHeartbeats 1000000 in
theorem codeF_both (hS : Fuel N SF) {k a1 a2 : Nat} {v1 v2 : Value} {m1 m2 : σ → Res × σ} (h1 : RunsF A SF a1 R lv mv v1 m1 w0) (h2 : RunsF A SF a2 R lv mv v2 m2 w0) {s : σ} {w : World} (hk : Keep R w0 w) (hR : R < w.heap.size) (hs : SF (k + (a1 + a2)) s w) :
    Calls Tryz.prog 116 #[.agg #[lv, mv], v1, v2] w fun e w' => Keep R w w' ∧ BothR A (SF k) m1 m2 s w' e := by
  obtain ⟨f1, caps1, rfl, hcf1, h1⟩ := h1
  obtain ⟨f2, caps2, rfl, hcf2, h2⟩ := h2
  have K1 : Hid (Keep R w (w.alloc (.cells #[lv, mv] 102))) := (Keep.refl R w).alloc _
  have hs : SF (k + a2 + a1) s w := by rw [show k + a2 + a1 = k + (a1 + a2) by omega]; exact hs
  have h1 := h1 (k + a2) s (w.alloc (.cells #[lv, mv] 102)) (hk.trans K1.out) (hS.stable _ _ _ _ hs ((Below.refl _ _).alloc (Nat.le_refl _) _))
  have HS : Hid (Fuel N SF) := hS
  have H2 : Hid _ := h2
  have HK : Hid _ := hk
  have hcf1 := hcf1 #[.agg #[lv, mv]]
  have hcf2 := hcf2 #[.agg #[lv, mv]]
  clear hs hS hk h2
  go_enter Tryz.func116, Tryz.ntmps116
  go_wp2_with fail
  refine h1.mono ?_
  rintro e w1 ⟨hk1, he⟩
  have K2 : Hid (Keep R w w1) := K1.out.trans hk1
  have B1 : Hid (w1.heap[w.heap.size]? = some (.cells #[lv, mv] 102 (0, 0))) := (hk1.block _ (by simp) (by omega)).trans (heap_alloc_new _ _)
  have c0 : w1.cell? ⟨w.heap.size, 0, none⟩ = some lv := cell_of_heap B1.out rfl
  have c1 : w1.cell? ⟨w.heap.size, 1, none⟩ = some mv := cell_of_heap B1.out rfl
  have lb := heap_lt B1.out
  clear h1 hk1 K1
  generalize hM : m1 s = r1 at he
  obtain ⟨r, s1⟩ := r1
  have HM : Hid _ := hM
  clear hM
  cases r with
  | held p y =>
    obtain ⟨b1, T, x, rfl, h2⟩ := he
    have H3 : Hid _ := h2
    clear h2
    go_wp2
    refine bodyPost_ret (v := .tuple #[.int .i64 0, .int .i64 0, .iface 111 (ptr b1)]) (by simp [results, Tryz.results116, go_sem]) rfl ?_
    refine ⟨K2.out, .inr ⟨p, y, s1, b1, T, x, rfl, H3.out.1, H3.out.2.1, HS.out.lessBy _ _ _ _ H3.out.2.2, fun k => ?_⟩⟩
    simp only [onBoth, onVal, HM.out]
  | val x =>
    obtain ⟨rfl, hn, hs1⟩ := he
    have h2 := H2.out k s1 w1 (HK.out.trans K2.out) hs1
    have HN : Hid (In64 x) := hn
    clear hs1 hn
    go_wp2_with fail
    refine h2.mono ?_
    rintro e w2 ⟨hk2, he⟩
    have K3 : Hid (Keep R w w2) := K2.out.trans hk2
    clear h2 hk2
    generalize hM2 : m2 s1 = r2 at he
    obtain ⟨r, s2⟩ := r2
    have HM2 : Hid _ := hM2
    clear hM2
    cases r with
    | held p y =>
      obtain ⟨b1, T, z, rfl, h2⟩ := he
      have H3 : Hid _ := h2
      clear h2
      go_wp2
      refine bodyPost_ret (v := .tuple #[.int .i64 0, .int .i64 0, .iface 111 (ptr b1)]) (by simp [results, Tryz.results116, go_sem]) rfl ?_
      refine ⟨K3.out, .inr ⟨p, y, s2, b1, T, z, rfl, H3.out.1, H3.out.2.1, H3.out.2.2, fun k => ?_⟩⟩
      simp only [onBoth, onVal, HM.out, HM2.out]
    | val y =>
      obtain ⟨rfl, hn, hs2⟩ := he
      have H3 : Hid _ := And.intro hn hs2
      clear hn hs2
      go_wp2
      refine bodyPost_ret (v := .tuple #[.int .i64 x, .int .i64 y, .nilIface]) (by simp [results, Tryz.results116, go_sem]) rfl ?_
      refine ⟨K3.out, .inl ⟨x, y, s2, rfl, HN.out, H3.out.1, H3.out.2, fun k => ?_⟩⟩
      simp only [onBoth, onVal, HM.out, HM2.out]
end
end Go.Proofs.YtaghcjpoihkpjaaGreatDoor
namespace Go.Proofs.YtaghcjpoihkpjaaGreatDoor
open Go.RowKit Go.Lib

theorem KeepX.refl (X : Nat → Prop) (w : World) : KeepX X w w := ⟨rfl, rfl, rfl, Nat.le_refl _, fun _ _ _ => rfl⟩
theorem KeepX.alloc {X : Nat → Prop} {w w1 : World} (h : KeepX X w w1) (o : Obj) : KeepX X w (w1.alloc o) :=
  ⟨h.os, h.tape, h.output, by simp; exact Nat.le_succ_of_le h.size, fun k hk hne => (Below.heap_alloc w1 o k (Nat.lt_of_lt_of_le hk h.size)).trans (h.block k hk hne)⟩
theorem KeepX.drew {X : Nat → Prop} {w w1 : World} (h : KeepX X w w1) : KeepX X w w1.drew := ⟨h.os, h.tape, h.output, h.size, h.block⟩
theorem KeepX.setNew {X : Nat → Prop} {w w1 : World} (h : KeepX X w w1) {a : Addr} (ha : w.heap.size ≤ a.block) (v : Value) : KeepX X w (w1.setCell a v) :=
  ⟨h.os, h.tape, h.output, by simp; exact h.size, fun k hk hne => (Below.heap_setCell w1 _ v k (by omega)).trans (h.block k hk hne)⟩
theorem KeepX.heap {X : Nat → Prop} {w w1 : World} (h : KeepX X w w1) {k : Nat} {o : Obj} (hk : w.heap[k]? = some o) (hne : ¬ X k) : w1.heap[k]? = some o := (h.block k (heap_lt hk) hne).trans hk
section
variable {σ : Type}
/-- A function in memory works a value out and spends at most a asks, now and whenever nothing but blocks of one kind was turned. -/
def RunsX (A : Nat → Addr) (SF : Nat → σ → World → Prop) (a : Nat) (X : Nat → Prop) (lv mv : Value) (v : Value) (m : σ → Res × σ) (w0 : World) : Prop :=
  ∃ f caps, v = .func (.func f) #[] caps ∧ (∀ (args : Array Value) (w : World), (callFunc f (args ++ caps)).run Tryz.prog w = .ok (.enter f (args ++ caps)) w) ∧
    ∀ k s w, KeepX X w0 w → SF (k + a) s w → Calls Tryz.prog f (#[.agg #[lv, mv]] ++ caps) w fun e w' => KeepX X w w' ∧ EvR A (SF k) (m s) w' e
theorem RunsX.more {N a b : Nat} {A : Nat → Addr} {SF : Nat → σ → World → Prop} {X : Nat → Prop} {lv mv v : Value} {m : σ → Res × σ} {w0 : World} (hS : Fuel N SF) (h : RunsX A SF a X lv mv v m w0) (hab : a ≤ b) : RunsX A SF b X lv mv v m w0 := by
  obtain ⟨f, caps, h1, h2, h3⟩ := h
  exact ⟨f, caps, h1, h2, fun k s w kp hs => h3 k s w kp (hS.lessBy (b - a) _ _ _ (by rw [show k + a + (b - a) = k + b by omega]; exact hs))⟩
variable {A : Nat → Addr} {SF : Nat → σ → World → Prop} {N : Nat} {X : Nat → Prop} {lv mv : Value} {w0 : World}
set_option maxRecDepth 1000000 in
theorem runsX_num (hS : Fuel N SF) {b : Nat} {n : Int} (hn : In64 n) (hb : One w0 b (.int .i64 n) 2) (hbR : ¬ X b) : RunsX A SF 0 X lv mv (.func (.func 111) #[] #[ptr b]) (fun s => (.val n, s)) w0 := by
  refine ⟨_, _, rfl, fun args w => by rfl, fun k s w hk hs => ?_⟩
  have hbw : One w b (.int .i64 n) 2 := hk.heap hb hbR
  have c0 : w.cell? ⟨b, 0, none⟩ = some (.int .i64 n) := cell_of_heap hbw rfl
  have lb := heap_lt hbw
  have hs : SF k s w := hs
  have hS := hS.stable k
  have HS : Hid _ := And.intro hs hS
  clear hs hS
  go_enter Tryz.func111, Tryz.ntmps111
  go_wp2
  go_ret2
  exact ⟨(KeepX.refl X w).alloc _, rfl, hn, HS.out.2 _ _ _ HS.out.1 ((Below.refl _ _).alloc (Nat.le_refl _) _)⟩
set_option maxRecDepth 1000000 in
theorem runsX_neg (hS : Fuel N SF) {a b : Nat} {va : Value} {m : σ → Res × σ} (hm : RunsX A SF a X lv mv va m w0) (hb : One w0 b va 90) (hbR : ¬ X b) : RunsX A SF a X lv mv (.func (.func 113) #[] #[ptr b]) (onVal m fun n s => (.val (clip (-n)), s)) w0 := by
  obtain ⟨f, caps, rfl, hcf, hm⟩ := hm
  refine ⟨_, _, rfl, fun args w => by rfl, fun k s w hk hs => ?_⟩
  have hbw : One w b (.func (.func f) #[] caps) 90 := hk.heap hb hbR
  have c0 : w.cell? ⟨b, 0, none⟩ = some (.func (.func f) #[] caps) := cell_of_heap hbw rfl
  have lb := heap_lt hbw
  have K1 : Hid (KeepX X w (w.alloc (.cells #[lv, mv] 102))) := (KeepX.refl X w).alloc _
  have hm := hm k s (w.alloc (.cells #[lv, mv] 102)) (hk.trans K1.out) (hS.stable _ _ _ _ hs ((Below.refl _ _).alloc (Nat.le_refl _) _))
  have hcf := hcf #[.agg #[lv, mv]]
  clear hs hS hk hb
  go_enter Tryz.func113, Tryz.ntmps113
  go_wp2_with fail
  refine hm.mono ?_
  rintro e w1 ⟨hk1, he⟩
  have K2 : Hid (KeepX X w w1) := K1.out.trans hk1
  clear hm hk1 K1
  generalize hM : m s = r1 at he
  obtain ⟨r, s1⟩ := r1
  have HM : Hid _ := hM
  clear hM
  cases r with
  | val n =>
    obtain ⟨rfl, hn, hs1⟩ := he
    have hng := b_Negative hn w1
    have HS1 : Hid _ := hs1
    clear hs1
    go_wp2_with fail
    refine hng.mono ?_
    rintro e w2 ⟨rfl, hw⟩
    have hw := hw.symm
    subst hw
    clear hng
    go_wp2
    go_ret2
    refine ⟨K2.out, ?_⟩
    simp only [onVal, HM.out]
    exact ⟨rfl, clip_in _, HS1.out⟩
  | held p y =>
    obtain ⟨b1, T, x, rfl, h2⟩ := he
    have H2 : Hid _ := h2
    clear h2
    go_wp2
    go_ret2
    refine ⟨K2.out, ?_⟩
    simp only [onVal, HM.out]
    exact ⟨b1, T, x, rfl, H2.out⟩
set_option maxRecDepth 1000000 in
set_option maxHeartbeats 1000000 in
theorem codeX_both (hS : Fuel N SF) {k a1 a2 : Nat} {v1 v2 : Value} {m1 m2 : σ → Res × σ} (h1 : RunsX A SF a1 X lv mv v1 m1 w0) (h2 : RunsX A SF a2 X lv mv v2 m2 w0) {s : σ} {w : World} (hk : KeepX X w0 w) (hR : ∀ k, X k → k < w.heap.size) (hs : SF (k + (a1 + a2)) s w) :
    Calls Tryz.prog 116 #[.agg #[lv, mv], v1, v2] w fun e w' => KeepX X w w' ∧ BothR A (SF k) m1 m2 s w' e := by
  obtain ⟨f1, caps1, rfl, hcf1, h1⟩ := h1
  obtain ⟨f2, caps2, rfl, hcf2, h2⟩ := h2
  have K1 : Hid (KeepX X w (w.alloc (.cells #[lv, mv] 102))) := (KeepX.refl X w).alloc _
  have hs : SF (k + a2 + a1) s w := by rw [show k + a2 + a1 = k + (a1 + a2) by omega]; exact hs
  have h1 := h1 (k + a2) s (w.alloc (.cells #[lv, mv] 102)) (hk.trans K1.out) (hS.stable _ _ _ _ hs ((Below.refl _ _).alloc (Nat.le_refl _) _))
  have HS : Hid (Fuel N SF) := hS
  have H2 : Hid _ := h2
  have HK : Hid _ := hk
  have hcf1 := hcf1 #[.agg #[lv, mv]]
  have hcf2 := hcf2 #[.agg #[lv, mv]]
  clear hs hS hk h2
  go_enter Tryz.func116, Tryz.ntmps116
  go_wp2_with fail
  refine h1.mono ?_
  rintro e w1 ⟨hk1, he⟩
  have K2 : Hid (KeepX X w w1) := K1.out.trans hk1
  have B1 : Hid (w1.heap[w.heap.size]? = some (.cells #[lv, mv] 102 (0, 0))) := (hk1.block _ (by simp) (fun q => by have := hR _ q; omega)).trans (heap_alloc_new _ _)
  have c0 : w1.cell? ⟨w.heap.size, 0, none⟩ = some lv := cell_of_heap B1.out rfl
  have c1 : w1.cell? ⟨w.heap.size, 1, none⟩ = some mv := cell_of_heap B1.out rfl
  have lb := heap_lt B1.out
  clear h1 hk1 K1
  generalize hM : m1 s = r1 at he
  obtain ⟨r, s1⟩ := r1
  have HM : Hid _ := hM
  clear hM
  cases r with
  | held p y =>
    obtain ⟨b1, T, x, rfl, h2⟩ := he
    have H3 : Hid _ := h2
    clear h2
    go_wp2
    refine bodyPost_ret (v := .tuple #[.int .i64 0, .int .i64 0, .iface 111 (ptr b1)]) (by simp [results, Tryz.results116, go_sem]) rfl ?_
    refine ⟨K2.out, .inr ⟨p, y, s1, b1, T, x, rfl, H3.out.1, H3.out.2.1, HS.out.lessBy _ _ _ _ H3.out.2.2, fun k => ?_⟩⟩
    simp only [onBoth, onVal, HM.out]
  | val x =>
    obtain ⟨rfl, hn, hs1⟩ := he
    have h2 := H2.out k s1 w1 (HK.out.trans K2.out) hs1
    have HN : Hid (In64 x) := hn
    clear hs1 hn
    go_wp2_with fail
    refine h2.mono ?_
    rintro e w2 ⟨hk2, he⟩
    have K3 : Hid (KeepX X w w2) := K2.out.trans hk2
    clear h2 hk2
    generalize hM2 : m2 s1 = r2 at he
    obtain ⟨r, s2⟩ := r2
    have HM2 : Hid _ := hM2
    clear hM2
    cases r with
    | held p y =>
      obtain ⟨b1, T, z, rfl, h2⟩ := he
      have H3 : Hid _ := h2
      clear h2
      go_wp2
      refine bodyPost_ret (v := .tuple #[.int .i64 0, .int .i64 0, .iface 111 (ptr b1)]) (by simp [results, Tryz.results116, go_sem]) rfl ?_
      refine ⟨K3.out, .inr ⟨p, y, s2, b1, T, z, rfl, H3.out.1, H3.out.2.1, H3.out.2.2, fun k => ?_⟩⟩
      simp only [onBoth, onVal, HM.out, HM2.out]
    | val y =>
      obtain ⟨rfl, hn, hs2⟩ := he
      have H3 : Hid _ := And.intro hn hs2
      clear hn hs2
      go_wp2
      refine bodyPost_ret (v := .tuple #[.int .i64 x, .int .i64 y, .nilIface]) (by simp [results, Tryz.results116, go_sem]) rfl ?_
      refine ⟨K3.out, .inl ⟨x, y, s2, rfl, HN.out, H3.out.1, H3.out.2, fun k => ?_⟩⟩
      simp only [onBoth, onVal, HM.out, HM2.out]
end
end Go.Proofs.YtaghcjpoihkpjaaGreatDoor
