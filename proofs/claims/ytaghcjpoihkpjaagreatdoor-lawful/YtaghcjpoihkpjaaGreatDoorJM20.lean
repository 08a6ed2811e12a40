/-
  PAIRS, QUOTIENTS AND CHOICES, WALKED.
-/
import Derived.Test.YtaghcjpoihkpjaaGreatDoorJM19
import Derived.Test.YtaghcjpoihkpjaaGreatDoorJM11
import Derived.Test.YtaghcjpoihkpjaaGreatDoorJM18
namespace Go.Proofs.YtaghcjpoihkpjaaGreatDoor
open Go.RowKit Go.Lib

/-- How a sign reckons. -/
def reck (k : Nat) (x y : Int) : Int :=
  if k = 43 then clip (x + y) else if k = 45 then clip (x - y) else if k = 42 then clip (x * y)
  else if k = 60 then (if x < y then 1 else 0) else if k = 62 then (if y < x then 1 else 0) else if k = 61 then (if x = y then 1 else 0) else 0
theorem reck_in (k : Nat) (x y : Int) : In64 (reck k x y) := by
  unfold reck
  repeat' split
  all_goals first | exact clip_in _ | (unfold In64; omega)
set_option maxRecDepth 1000000 in
theorem code_oneIf (b : Bool) (w : World) : Calls Tryz.prog 129 #[.bool b] w fun e w' => e = .returned (.int .i64 (if b = true then 1 else 0)) ∧ w' = w := by
  cases b <;>
  · go_enter Tryz.func129, Tryz.ntmps129
    go_wp2
    go_ret
    exact ⟨rfl, rfl⟩
set_option maxRecDepth 1000000 in
theorem code_less (x y : Int) (w : World) : Calls Tryz.prog 128 #[.int .i64 x, .int .i64 y] w fun e w' => e = .returned (.int .i64 (if x < y then 1 else 0)) ∧ w' = w := by
  have ho := code_oneIf (decide (x < y)) w
  go_enter Tryz.func128, Tryz.ntmps128
  go_wp2_with fail
  refine ho.mono ?_
  rintro e w' ⟨rfl, hw⟩
  have hw := hw.symm
  subst hw
  go_wp2
  all_goals
    go_ret
    exact ⟨rfl, rfl⟩
set_option maxRecDepth 1000000 in
theorem code_more (x y : Int) (w : World) : Calls Tryz.prog 130 #[.int .i64 x, .int .i64 y] w fun e w' => e = .returned (.int .i64 (if y < x then 1 else 0)) ∧ w' = w := by
  have ho := code_oneIf (decide (y < x)) w
  go_enter Tryz.func130, Tryz.ntmps130
  go_wp2_with fail
  refine ho.mono ?_
  rintro e w' ⟨rfl, hw⟩
  have hw := hw.symm
  subst hw
  go_wp2
  all_goals
    go_ret
    exact ⟨rfl, rfl⟩
set_option maxRecDepth 1000000 in
theorem code_even (x y : Int) (w : World) : Calls Tryz.prog 131 #[.int .i64 x, .int .i64 y] w fun e w' => e = .returned (.int .i64 (if x = y then 1 else 0)) ∧ w' = w := by
  have ho := code_oneIf (x == y) w
  go_enter Tryz.func131, Tryz.ntmps131
  go_wp2_with fail
  refine ho.mono ?_
  rintro e w' ⟨rfl, hw⟩
  have hw := hw.symm
  subst hw
  go_wp2
  all_goals
    go_ret
    exact ⟨rfl, rfl⟩
set_option maxRecDepth 1000000 in
/-- A sign's function reckons as the sign. -/
theorem reck_runs {k : Nat} (hk : k = 43 ∨ k = 45 ∨ k = 42 ∨ k = 60 ∨ k = 62 ∨ k = 61) : ∃ f, reckV k = .func (.func f) #[] #[] ∧ (∀ (args : Array Value) (w : World), (callFunc f args).run Tryz.prog w = .ok (.enter f args) w) ∧
    ∀ x y w, In64 x → In64 y → Calls Tryz.prog f #[.int .i64 x, .int .i64 y] w fun e w' => e = .returned (.int .i64 (reck k x y)) ∧ w' = w := by
  rcases hk with rfl | rfl | rfl | rfl | rfl | rfl
  · exact ⟨_, rfl, fun _ _ => by rfl, fun x y w hx hy => b_Sum hx hy w⟩
  · exact ⟨_, rfl, fun _ _ => by rfl, fun x y w hx hy => b_Difference hx hy w⟩
  · exact ⟨_, rfl, fun _ _ => by rfl, fun x y w hx hy => b_Product hx hy w⟩
  · exact ⟨_, rfl, fun _ _ => by rfl, fun x y w _ _ => code_less x y w⟩
  · exact ⟨_, rfl, fun _ _ => by rfl, fun x y w _ _ => code_more x y w⟩
  · exact ⟨_, rfl, fun _ _ => by rfl, fun x y w _ _ => code_even x y w⟩
section
variable {σ : Type} {A : Nat → Addr} {S : σ → World → Prop} {R : Nat} {lv mv : Value} {w0 : World}
set_option maxRecDepth 1000000 in
set_option maxHeartbeats 1000000 in
theorem runs_pair (hS : Stable S) (hR : R < w0.heap.size) {k b1 b2 b3 : Nat} {v1 v2 : Value} {m1 m2 : σ → Res × σ} (hk : k = 43 ∨ k = 45 ∨ k = 42 ∨ k = 60 ∨ k = 62 ∨ k = 61) (h1 : Runs A S R lv mv v1 m1 w0) (h2 : Runs A S R lv mv v2 m2 w0)
    (hb1 : One w0 b1 v1 90) (hb2 : One w0 b2 v2 90) (hb3 : One w0 b3 (reckV k) 182) (hn1 : b1 ≠ R) (hn2 : b2 ≠ R) (hn3 : b3 ≠ R) :
    Runs A S R lv mv (.func (.func 132) #[] #[ptr b1, ptr b2, ptr b3]) (onBoth m1 m2 fun x y s => (.val (reck k x y), s)) w0 := by
  obtain ⟨fr, hfr, hcr, hrk⟩ := reck_runs hk
  rw [hfr] at hb3
  refine ⟨_, _, rfl, fun args w => by rfl, fun s w hk hs => ?_⟩
  have K1 : Hid (Keep R w (w.alloc (.cells #[lv, mv] 102))) := (Keep.refl R w).alloc _
  have hbo := code_both hS h1 h2 (hk.trans K1.out) (by have := hk.size; simp; omega) (hS _ _ _ hs ((Below.refl _ _).alloc (Nat.le_refl _) _))
  obtain ⟨f1, caps1, rfl, -⟩ := h1
  obtain ⟨f2, caps2, rfl, -⟩ := h2
  have c1 : w.cell? ⟨b1, 0, none⟩ = some (.func (.func f1) #[] caps1) := cell_of_heap (hk.heap hb1 hn1) rfl
  have c2 : w.cell? ⟨b2, 0, none⟩ = some (.func (.func f2) #[] caps2) := cell_of_heap (hk.heap hb2 hn2) rfl
  have l1 := heap_lt (hk.heap hb1 hn1)
  have l2 := heap_lt (hk.heap hb2 hn2)
  have B3 : Hid (One w b3 (.func (.func fr) #[] #[]) 182) := hk.heap hb3 hn3
  have l3 := heap_lt B3.out
  have hcr := hcr
  have HR : Hid _ := hrk
  clear hs hS hk hb1 hb2 hb3 hfr hrk
  go_enter Tryz.func132, Tryz.ntmps132
  go_wp2_with fail
  refine hbo.mono ?_
  rintro e w1 ⟨hk1, he⟩
  have K2 : Hid (Keep R w w1) := K1.out.trans hk1
  have c3 : w1.cell? ⟨b3, 0, none⟩ = some (.func (.func fr) #[] #[]) := cell_of_heap (K2.out.heap B3.out hn3) rfl
  clear hbo hk1 K1
  rcases he with ⟨x, y, s2, rfl, hx, hy, hs2, hM⟩ | ⟨p, why, s2, b, T, z, rfl, g1, g2, g3, hM⟩
  · have hre := HR.out x y w1 hx hy
    have HM : Hid _ := And.intro hs2 hM
    clear hs2 hM hx hy
    go_wp2_with fail
    refine hre.mono ?_
    rintro e w2 ⟨rfl, hw⟩
    have hw := hw.symm
    subst hw
    clear hre
    go_wp2
    go_ret2
    refine ⟨K2.out, ?_⟩
    rw [HM.out.2]
    exact ⟨rfl, reck_in _ _ _, HM.out.1⟩
  · have HM : Hid _ := And.intro g1 (And.intro g2 (And.intro g3 hM))
    clear g1 g2 g3 hM
    go_wp2
    go_ret2
    refine ⟨K2.out, ?_⟩
    rw [HM.out.2.2.2]
    exact ⟨b, T, z, rfl, HM.out.1, HM.out.2.1, HM.out.2.2.1⟩
set_option maxRecDepth 1000000 in
set_option maxHeartbeats 1000000 in
theorem runs_quotient (hS : Stable S) (hA : ∀ s w, S s w → Sents A w) (hR : R < w0.heap.size) {p b1 b2 b3 : Nat} {v1 v2 : Value} {m1 m2 : σ → Res × σ} (h1 : Runs A S R lv mv v1 m1 w0) (h2 : Runs A S R lv mv v2 m2 w0)
    (hb1 : One w0 b1 v1 90) (hb2 : One w0 b2 v2 90) (hb3 : One w0 b3 (.int .i64 (p : Int)) 105) (hn1 : b1 ≠ R) (hn2 : b2 ≠ R) (hn3 : b3 ≠ R) :
    Runs A S R lv mv (.func (.func 115) #[] #[ptr b1, ptr b2, ptr b3]) (onBoth m1 m2 fun x y s => (if y = 0 then .held p .divide else .val (quot x y), s)) w0 := by
  refine ⟨_, _, rfl, fun args w => by rfl, fun s w hk hs => ?_⟩
  have K1 : Hid (Keep R w (w.alloc (.cells #[lv, mv] 102))) := (Keep.refl R w).alloc _
  have hbo := code_both hS h1 h2 (hk.trans K1.out) (by have := hk.size; simp; omega) (hS _ _ _ hs ((Below.refl _ _).alloc (Nat.le_refl _) _))
  obtain ⟨f1, caps1, rfl, -⟩ := h1
  obtain ⟨f2, caps2, rfl, -⟩ := h2
  have c1 : w.cell? ⟨b1, 0, none⟩ = some (.func (.func f1) #[] caps1) := cell_of_heap (hk.heap hb1 hn1) rfl
  have c2 : w.cell? ⟨b2, 0, none⟩ = some (.func (.func f2) #[] caps2) := cell_of_heap (hk.heap hb2 hn2) rfl
  have l1 := heap_lt (hk.heap hb1 hn1)
  have l2 := heap_lt (hk.heap hb2 hn2)
  have B3 : Hid (One w b3 (.int .i64 (p : Int)) 105) := hk.heap hb3 hn3
  have l3 := heap_lt B3.out
  have HA : Hid _ := And.intro hA hS
  clear hs hS hk hb1 hb2 hb3 hA
  go_enter Tryz.func115, Tryz.ntmps115
  go_wp2_with fail
  refine hbo.mono ?_
  rintro e w1 ⟨hk1, he⟩
  have K2 : Hid (Keep R w w1) := K1.out.trans hk1
  have c3 : w1.cell? ⟨b3, 0, none⟩ = some (.int .i64 (p : Int)) := cell_of_heap (K2.out.heap B3.out hn3) rfl
  clear hbo hk1 K1
  rcases he with ⟨x, y, s2, rfl, hx, hy, hs2, hM⟩ | ⟨p2, why, s2, b, T, z, rfl, g1, g2, g3, hM⟩
  · have cD := (HA.out.1 _ _ hs2).g5
    by_cases h0 : y = 0
    · subst h0
      have hh := code_hold p 349 (.pointer (some (A 5))) w1
      have HM : Hid _ := And.intro hs2 hM
      clear hs2 hM hx hy
      go_wp2_with fail
      refine hh.mono ?_
      rintro e w2 ⟨b, rfl, hh2, hb3⟩
      have HH : Hid _ := And.intro hh2 hb3
      clear hh hh2 hb3
      go_wp2
      go_ret2
      refine ⟨K2.out.trans (.of_below HH.out.2), ?_⟩
      rw [HM.out.2]
      exact ⟨b, _, _, rfl, HH.out.1, ⟨rfl, rfl⟩, HA.out.2 _ _ _ HM.out.1 HH.out.2⟩
    · have e0 : (y == 0) = false := by rw [beq_eq_false_iff_ne]; exact h0
      have hq := b_Quotient hx hy h0 w1
      have HM : Hid _ := And.intro hs2 hM
      clear hs2 hM hx hy
      go_wp2_with fail
      refine hq.mono ?_
      rintro e w2 ⟨rfl, hw⟩
      have hw := hw.symm
      subst hw
      clear hq
      go_wp2
      go_ret2
      refine ⟨K2.out, ?_⟩
      rw [HM.out.2, if_neg h0]
      exact ⟨rfl, quot_in _ _, HM.out.1⟩
  · have HM : Hid _ := And.intro g1 (And.intro g2 (And.intro g3 hM))
    clear g1 g2 g3 hM
    go_wp2
    go_ret2
    refine ⟨K2.out, ?_⟩
    rw [HM.out.2.2.2]
    exact ⟨b, T, z, rfl, HM.out.1, HM.out.2.1, HM.out.2.2.1⟩
set_option maxRecDepth 1000000 in
set_option maxHeartbeats 1000000 in
theorem runs_choice (hS : Stable S) (hR : R < w0.heap.size) {b1 b2 b3 : Nat} {v1 v2 v3 : Value} {m1 m2 m3 : σ → Res × σ} (h1 : Runs A S R lv mv v1 m1 w0) (h2 : Runs A S R lv mv v2 m2 w0) (h3 : Runs A S R lv mv v3 m3 w0)
    (hb1 : One w0 b1 v1 90) (hb2 : One w0 b2 v2 90) (hb3 : One w0 b3 v3 90) (hn1 : b1 ≠ R) (hn2 : b2 ≠ R) (hn3 : b3 ≠ R) :
    Runs A S R lv mv (.func (.func 119) #[] #[ptr b1, ptr b2, ptr b3]) (onVal m1 fun n s => if n ≠ 0 then m2 s else m3 s) w0 := by
  obtain ⟨f1, caps1, rfl, hcf1, h1⟩ := h1
  obtain ⟨f2, caps2, rfl, hcf2, h2⟩ := h2
  obtain ⟨f3, caps3, rfl, hcf3, h3⟩ := h3
  refine ⟨_, _, rfl, fun args w => by rfl, fun s w hk hs => ?_⟩
  have K1 : Hid (Keep R w (w.alloc (.cells #[lv, mv] 102))) := (Keep.refl R w).alloc _
  have h1 := h1 s (w.alloc (.cells #[lv, mv] 102)) (hk.trans K1.out) (hS _ _ _ hs ((Below.refl _ _).alloc (Nat.le_refl _) _))
  have c1 : w.cell? ⟨b1, 0, none⟩ = some (.func (.func f1) #[] caps1) := cell_of_heap (hk.heap hb1 hn1) rfl
  have l1 := heap_lt (hk.heap hb1 hn1)
  have HB : Hid (One w b2 (.func (.func f2) #[] caps2) 90 ∧ One w b3 (.func (.func f3) #[] caps3) 90) := ⟨hk.heap hb2 hn2, hk.heap hb3 hn3⟩
  have HH : Hid _ := And.intro h2 (And.intro h3 hk)
  have hcf1 := hcf1 #[.agg #[lv, mv]]
  have hcf2 := hcf2 #[.agg #[lv, mv]]
  have hcf3 := hcf3 #[.agg #[lv, mv]]
  have lR : R < w.heap.size := by have := hk.size; omega
  clear hs hS hk hb1 hb2 hb3 h2 h3
  go_enter Tryz.func119, Tryz.ntmps119
  go_wp2_with fail
  refine h1.mono ?_
  rintro e w1 ⟨hk1, he⟩
  have K2 : Hid (Keep R w w1) := K1.out.trans hk1
  have B1 : Hid (w1.heap[w.heap.size]? = some (.cells #[lv, mv] 102 (0, 0))) := (hk1.block _ (by simp) (by omega)).trans (heap_alloc_new _ _)
  have d0 : w1.cell? ⟨w.heap.size, 0, none⟩ = some lv := cell_of_heap B1.out rfl
  have d1 : w1.cell? ⟨w.heap.size, 1, none⟩ = some mv := cell_of_heap B1.out rfl
  have c2 : w1.cell? ⟨b2, 0, none⟩ = some (.func (.func f2) #[] caps2) := cell_of_heap (K2.out.heap HB.out.1 hn2) rfl
  have c3 : w1.cell? ⟨b3, 0, none⟩ = some (.func (.func f3) #[] caps3) := cell_of_heap (K2.out.heap HB.out.2 hn3) rfl
  clear h1 hk1 K1
  generalize hM : m1 s = r1 at he
  obtain ⟨r, s1⟩ := r1
  have HM : Hid _ := hM
  clear hM
  cases r with
  | held p y =>
    obtain ⟨b, T, x, rfl, h2⟩ := he
    have H2 : Hid _ := h2
    clear h2
    go_wp2
    go_ret2
    refine ⟨K2.out, ?_⟩
    simp only [onVal, HM.out]
    exact ⟨b, T, x, rfl, H2.out⟩
  | val n =>
    obtain ⟨rfl, -, hs1⟩ := he
    by_cases h0 : n = 0
    · have hc := HH.out.2.1 s1 w1 (HH.out.2.2.trans K2.out) hs1
      subst h0
      clear hs1
      go_wp2_with fail
      refine hc.mono ?_
      rintro e w2 ⟨hk2, he⟩
      have K3 : Hid (Keep R w w2) := K2.out.trans hk2
      have E2 : Hid (onVal m1 (fun n s => if n ≠ 0 then m2 s else m3 s) s = m3 s1) := by
        show onVal m1 _ s = _
        simp only [onVal, HM.out]
        rw [if_neg (by simp)]
      clear hc hk2
      generalize hM3 : m3 s1 = r3 at he
      have E3 : Hid _ := E2.out.trans hM3
      clear hM3
      obtain ⟨r, s2⟩ := r3
      cases r with
      | val y =>
        obtain ⟨rfl, he⟩ := he
        have H3 : Hid _ := he
        clear he
        go_wp2
        go_ret2
        refine ⟨K3.out, ?_⟩
        rw [E3.out]
        exact ⟨rfl, H3.out⟩
      | held p y =>
        obtain ⟨b, T, x, rfl, he⟩ := he
        have H3 : Hid _ := he
        clear he
        go_wp2
        go_ret2
        refine ⟨K3.out, ?_⟩
        rw [E3.out]
        exact ⟨b, T, x, rfl, H3.out⟩
    · have e0 : (n != 0) = true := by rw [bne_iff_ne]; exact h0
      have hc := HH.out.1 s1 w1 (HH.out.2.2.trans K2.out) hs1
      clear hs1
      go_wp2_with fail
      refine hc.mono ?_
      rintro e w2 ⟨hk2, he⟩
      have K3 : Hid (Keep R w w2) := K2.out.trans hk2
      have E2 : Hid (onVal m1 (fun n s => if n ≠ 0 then m2 s else m3 s) s = m2 s1) := by
        show onVal m1 _ s = _
        simp only [onVal, HM.out]
        rw [if_pos h0]
      clear hc hk2
      generalize hM3 : m2 s1 = r3 at he
      have E3 : Hid _ := E2.out.trans hM3
      clear hM3
      obtain ⟨r, s2⟩ := r3
      cases r with
      | val y =>
        obtain ⟨rfl, he⟩ := he
        have H3 : Hid _ := he
        clear he
        go_wp2
        go_ret2
        refine ⟨K3.out, ?_⟩
        rw [E3.out]
        exact ⟨rfl, H3.out⟩
      | held p y =>
        obtain ⟨b, T, x, rfl, he⟩ := he
        have H3 : Hid _ := he
        clear he
        go_wp2
        go_ret2
        refine ⟨K3.out, ?_⟩
        rw [E3.out]
        exact ⟨b, T, x, rfl, H3.out⟩
end
end Go.Proofs.YtaghcjpoihkpjaaGreatDoor
namespace Go.Proofs.YtaghcjpoihkpjaaGreatDoor
open Go.RowKit Go.Lib

theorem heap_new8 {w : World} {o : Obj} {k : Nat} (h : k = w.heap.size) : (w.alloc o).heap[k]? = some o := by subst h; exact heap_alloc_new _ _
section
variable {R lo : Nat} {w : World} {r : RS}
set_option maxRecDepth 1000000 in
theorem mk_num (h : RSt R w r) (hlo : lo ≤ w.heap.size) (n : Int) : Calls Tryz.prog 66 #[.int .i64 n] w fun e w' => ∃ v, e = .returned v ∧ FuncV v ∧ RSt R w' r ∧ KR R w w' ∧ VOk R lo w' r (.num 0 n) v := by
  have hb : Below w.heap.size w (w.alloc (.cells #[.int .i64 n] 2)) := ((Below.refl _ _).alloc (by first | exact Nat.le_refl _ | (simp; done) | (simp; omega)) _)
  have HB : Hid _ := And.intro h hb
  have K : Hid (KR R w (w.alloc (.cells #[.int .i64 n] 2))) := KR.of_below hb h.lR
  have FR : Hid (∀ b, w.heap.size ≤ b → b < w.heap.size + 1 → Fr R lo (w.alloc (.cells #[.int .i64 n] 2)) b) := fun b h1 h2 => And.intro (h.free_new hb h1 (by first | (simp; done) | (simp; omega))) (Nat.le_trans hlo h1)
  have H : Hid (RSt R w r) := h
  clear h hb
  have hmf : ∀ (fn : Fn) (first cap : Array Value) (w : World), (Instr.makeFunc fn first cap).run Tryz.prog w = .ok (.func fn first cap) w := fun _ _ _ _ => rfl
  go_enter Tryz.func66, Tryz.ntmps66
  go_wp2
  go_ret
  refine ⟨_, rfl, .inr ⟨_, _, _, rfl⟩, HB.out.1.later HB.out.2, K.out, fun hw => ?_⟩
  unfold VNode
  exact ⟨_, rfl, FR.out _ (by first | exact Nat.le_refl _ | omega | (simp; done) | (simp; omega)) (by first | omega | (simp; done) | (simp; omega)), heap_new8 (by simp)⟩
set_option maxRecDepth 1000000 in
theorem mk_neg (h : RSt R w r) (hlo : lo ≤ w.heap.size) {a : Tree} {va : Value} (hfa : FuncV va) (hva : VOk R lo w r a va) : Calls Tryz.prog 68 #[va] w fun e w' => ∃ v, e = .returned v ∧ FuncV v ∧ RSt R w' r ∧ KR R w w' ∧ VOk R lo w' r (.neg 0 a) v := by
  have hb : Below w.heap.size w (w.alloc (.cells #[va] 90)) := ((Below.refl _ _).alloc (by first | exact Nat.le_refl _ | (simp; done) | (simp; omega)) _)
  have HB : Hid _ := And.intro h hb
  have K : Hid (KR R w (w.alloc (.cells #[va] 90))) := KR.of_below hb h.lR
  have FR : Hid (∀ b, w.heap.size ≤ b → b < w.heap.size + 1 → Fr R lo (w.alloc (.cells #[va] 90)) b) := fun b h1 h2 => And.intro (h.free_new hb h1 (by first | (simp; done) | (simp; omega))) (Nat.le_trans hlo h1)
  have H : Hid (RSt R w r) := h
  clear h hb
  have hmf : ∀ (fn : Fn) (first cap : Array Value) (w : World), (Instr.makeFunc fn first cap).run Tryz.prog w = .ok (.func fn first cap) w := fun _ _ _ _ => rfl
  have HVa : Hid _ := hva
  clear hva
  rcases hfa with rfl | ⟨_, _, _, rfl⟩
  all_goals
    go_enter Tryz.func68, Tryz.ntmps68
    go_wp2
    go_ret
    refine ⟨_, rfl, .inr ⟨_, _, _, rfl⟩, HB.out.1.later HB.out.2, K.out, fun hw => ?_⟩
    unfold VNode
    exact ⟨_, _, rfl, FR.out _ (by first | exact Nat.le_refl _ | omega | (simp; done) | (simp; omega)) (by first | omega | (simp; done) | (simp; omega)), heap_new8 (by simp), (HVa.out hw).moves K.out.vmoves⟩
set_option maxRecDepth 1000000 in
theorem mk_quot (h : RSt R w r) (hlo : lo ≤ w.heap.size) (p : Nat) {a c : Tree} {va vc : Value} (hfa : FuncV va) (hfc : FuncV vc) (hva : VOk R lo w r a va) (hvc : VOk R lo w r c vc) : Calls Tryz.prog 70 #[.agg #[.int .i64 p], va, vc] w fun e w' => ∃ v, e = .returned v ∧ FuncV v ∧ RSt R w' r ∧ KR R w w' ∧ VOk R lo w' r (.bin 47 p a c) v := by
  have hb : Below w.heap.size w (((w.alloc (.cells #[.int .i64 p] 105)).alloc (.cells #[va] 90)).alloc (.cells #[vc] 90)) := ((((Below.refl _ _).alloc (by first | exact Nat.le_refl _ | (simp; done) | (simp; omega)) _).alloc (by first | exact Nat.le_refl _ | (simp; done) | (simp; omega)) _).alloc (by first | exact Nat.le_refl _ | (simp; done) | (simp; omega)) _)
  have HB : Hid _ := And.intro h hb
  have K : Hid (KR R w (((w.alloc (.cells #[.int .i64 p] 105)).alloc (.cells #[va] 90)).alloc (.cells #[vc] 90))) := KR.of_below hb h.lR
  have FR : Hid (∀ b, w.heap.size ≤ b → b < w.heap.size + 3 → Fr R lo (((w.alloc (.cells #[.int .i64 p] 105)).alloc (.cells #[va] 90)).alloc (.cells #[vc] 90)) b) := fun b h1 h2 => And.intro (h.free_new hb h1 (by first | (simp; done) | (simp; omega))) (Nat.le_trans hlo h1)
  have H : Hid (RSt R w r) := h
  clear h hb
  have hmf : ∀ (fn : Fn) (first cap : Array Value) (w : World), (Instr.makeFunc fn first cap).run Tryz.prog w = .ok (.func fn first cap) w := fun _ _ _ _ => rfl
  have HVa : Hid _ := hva
  clear hva
  have HVc : Hid _ := hvc
  clear hvc
  rcases hfa with rfl | ⟨_, _, _, rfl⟩ <;> rcases hfc with rfl | ⟨_, _, _, rfl⟩
  all_goals
    go_enter Tryz.func70, Tryz.ntmps70
    go_wp2
    go_ret
    refine ⟨_, rfl, .inr ⟨_, _, _, rfl⟩, HB.out.1.later HB.out.2, K.out, fun hw => ?_⟩
    unfold VNode
    exact ⟨_, _, _, _, _, rfl, ⟨FR.out _ (by first | exact Nat.le_refl _ | omega | (simp; done) | (simp; omega)) (by first | omega | (simp; done) | (simp; omega)), FR.out _ (by first | exact Nat.le_refl _ | omega | (simp; done) | (simp; omega)) (by first | omega | (simp; done) | (simp; omega)), FR.out _ (by first | exact Nat.le_refl _ | omega | (simp; done) | (simp; omega)) (by first | omega | (simp; done) | (simp; omega))⟩, heap_alloc_old (heap_new8 (by simp)), heap_new8 (by simp), heap_alloc_old (heap_alloc_old (heap_new8 (by simp))), (HVa.out hw).moves K.out.vmoves, (HVc.out hw).moves K.out.vmoves⟩
set_option maxRecDepth 1000000 in
theorem mk_pair (h : RSt R w r) (hlo : lo ≤ w.heap.size) (k : Nat) (hk : k ≠ 47) {a c : Tree} {va vc : Value} (hfa : FuncV va) (hfc : FuncV vc) (hva : VOk R lo w r a va) (hvc : VOk R lo w r c vc) : Calls Tryz.prog 75 #[reckV k, va, vc] w fun e w' => ∃ v, e = .returned v ∧ FuncV v ∧ RSt R w' r ∧ KR R w w' ∧ VOk R lo w' r (.bin k 0 a c) v := by
  have hb : Below w.heap.size w (((w.alloc (.cells #[reckV k] 182)).alloc (.cells #[va] 90)).alloc (.cells #[vc] 90)) := ((((Below.refl _ _).alloc (by first | exact Nat.le_refl _ | (simp; done) | (simp; omega)) _).alloc (by first | exact Nat.le_refl _ | (simp; done) | (simp; omega)) _).alloc (by first | exact Nat.le_refl _ | (simp; done) | (simp; omega)) _)
  have HB : Hid _ := And.intro h hb
  have K : Hid (KR R w (((w.alloc (.cells #[reckV k] 182)).alloc (.cells #[va] 90)).alloc (.cells #[vc] 90))) := KR.of_below hb h.lR
  have FR : Hid (∀ b, w.heap.size ≤ b → b < w.heap.size + 3 → Fr R lo (((w.alloc (.cells #[reckV k] 182)).alloc (.cells #[va] 90)).alloc (.cells #[vc] 90)) b) := fun b h1 h2 => And.intro (h.free_new hb h1 (by first | (simp; done) | (simp; omega))) (Nat.le_trans hlo h1)
  have H : Hid (RSt R w r) := h
  clear h hb
  have hmf : ∀ (fn : Fn) (first cap : Array Value) (w : World), (Instr.makeFunc fn first cap).run Tryz.prog w = .ok (.func fn first cap) w := fun _ _ _ _ => rfl
  have HVa : Hid _ := hva
  clear hva
  have HVc : Hid _ := hvc
  clear hvc
  have hfr : FuncV (reckV k) := by rcases reck_nil k with ⟨-, F, e⟩ | ⟨-, e⟩ <;> rw [e]; exact .inr ⟨_, _, _, rfl⟩; exact .inl rfl
  generalize hRK : reckV k = rk at *
  have HRK : Hid (reckV k = rk) := hRK
  clear hRK
  rcases hfr with rfl | ⟨_, _, _, rfl⟩ <;> rcases hfa with rfl | ⟨_, _, _, rfl⟩ <;> rcases hfc with rfl | ⟨_, _, _, rfl⟩
  all_goals
    go_enter Tryz.func75, Tryz.ntmps75
    go_wp2
    go_ret
    refine ⟨_, rfl, .inr ⟨_, _, _, rfl⟩, HB.out.1.later HB.out.2, K.out, fun hw => ?_⟩
    unfold VNode
    exact ⟨_, _, _, _, _, by rw [if_neg hk]; rfl, ⟨FR.out _ (by first | exact Nat.le_refl _ | omega | (simp; done) | (simp; omega)) (by first | omega | (simp; done) | (simp; omega)), FR.out _ (by first | exact Nat.le_refl _ | omega | (simp; done) | (simp; omega)) (by first | omega | (simp; done) | (simp; omega)), FR.out _ (by first | exact Nat.le_refl _ | omega | (simp; done) | (simp; omega)) (by first | omega | (simp; done) | (simp; omega))⟩, heap_alloc_old (heap_new8 (by simp)), heap_new8 (by simp), by rw [if_neg hk, if_neg hk, HRK.out]; exact heap_alloc_old (heap_alloc_old (heap_new8 (by simp))), (HVa.out hw).moves K.out.vmoves, (HVc.out hw).moves K.out.vmoves⟩
set_option maxRecDepth 1000000 in
theorem mk_ite (h : RSt R w r) (hlo : lo ≤ w.heap.size) {a c d : Tree} {va vc vd : Value} (hfa : FuncV va) (hfc : FuncV vc) (hfd : FuncV vd) (hva : VOk R lo w r a va) (hvc : VOk R lo w r c vc) (hvd : VOk R lo w r d vd) : Calls Tryz.prog 71 #[va, vc, vd] w fun e w' => ∃ v, e = .returned v ∧ FuncV v ∧ RSt R w' r ∧ KR R w w' ∧ VOk R lo w' r (.ite 0 a c d) v := by
  have hb : Below w.heap.size w (((w.alloc (.cells #[va] 90)).alloc (.cells #[vc] 90)).alloc (.cells #[vd] 90)) := ((((Below.refl _ _).alloc (by first | exact Nat.le_refl _ | (simp; done) | (simp; omega)) _).alloc (by first | exact Nat.le_refl _ | (simp; done) | (simp; omega)) _).alloc (by first | exact Nat.le_refl _ | (simp; done) | (simp; omega)) _)
  have HB : Hid _ := And.intro h hb
  have K : Hid (KR R w (((w.alloc (.cells #[va] 90)).alloc (.cells #[vc] 90)).alloc (.cells #[vd] 90))) := KR.of_below hb h.lR
  have FR : Hid (∀ b, w.heap.size ≤ b → b < w.heap.size + 3 → Fr R lo (((w.alloc (.cells #[va] 90)).alloc (.cells #[vc] 90)).alloc (.cells #[vd] 90)) b) := fun b h1 h2 => And.intro (h.free_new hb h1 (by first | (simp; done) | (simp; omega))) (Nat.le_trans hlo h1)
  have H : Hid (RSt R w r) := h
  clear h hb
  have hmf : ∀ (fn : Fn) (first cap : Array Value) (w : World), (Instr.makeFunc fn first cap).run Tryz.prog w = .ok (.func fn first cap) w := fun _ _ _ _ => rfl
  have HVa : Hid _ := hva
  clear hva
  have HVc : Hid _ := hvc
  clear hvc
  have HVd : Hid _ := hvd
  clear hvd
  rcases hfa with rfl | ⟨_, _, _, rfl⟩ <;> rcases hfc with rfl | ⟨_, _, _, rfl⟩ <;> rcases hfd with rfl | ⟨_, _, _, rfl⟩
  all_goals
    go_enter Tryz.func71, Tryz.ntmps71
    go_wp2
    go_ret
    refine ⟨_, rfl, .inr ⟨_, _, _, rfl⟩, HB.out.1.later HB.out.2, K.out, fun hw => ?_⟩
    unfold VNode
    exact ⟨_, _, _, _, _, _, rfl, ⟨FR.out _ (by first | exact Nat.le_refl _ | omega | (simp; done) | (simp; omega)) (by first | omega | (simp; done) | (simp; omega)), FR.out _ (by first | exact Nat.le_refl _ | omega | (simp; done) | (simp; omega)) (by first | omega | (simp; done) | (simp; omega)), FR.out _ (by first | exact Nat.le_refl _ | omega | (simp; done) | (simp; omega)) (by first | omega | (simp; done) | (simp; omega))⟩, heap_alloc_old (heap_alloc_old (heap_new8 (by simp))), heap_alloc_old (heap_new8 (by simp)), heap_new8 (by simp), (HVa.out hw).moves K.out.vmoves, (HVc.out hw).moves K.out.vmoves, (HVd.out hw).moves K.out.vmoves⟩
set_option maxRecDepth 1000000 in
theorem mk_meas (h : RSt R w r) (hlo : lo ≤ w.heap.size) (p : Nat) (wd m : ByteArray) (n : Int) : Calls Tryz.prog 123 #[.agg #[.int .i64 p], .string wd, .string m, .int .i64 n] w fun e w' => ∃ v, e = .returned v ∧ FuncV v ∧ RSt R w' r ∧ KR R w w' ∧ VOk R lo w' r (.meas p wd m n) v := by
  have hb : Below w.heap.size w ((((w.alloc (.cells #[.int .i64 p] 105)).alloc (.cells #[.string wd] 9)).alloc (.cells #[.string m] 9)).alloc (.cells #[.int .i64 n] 2)) := (((((Below.refl _ _).alloc (by first | exact Nat.le_refl _ | (simp; done) | (simp; omega)) _).alloc (by first | exact Nat.le_refl _ | (simp; done) | (simp; omega)) _).alloc (by first | exact Nat.le_refl _ | (simp; done) | (simp; omega)) _).alloc (by first | exact Nat.le_refl _ | (simp; done) | (simp; omega)) _)
  have HB : Hid _ := And.intro h hb
  have K : Hid (KR R w ((((w.alloc (.cells #[.int .i64 p] 105)).alloc (.cells #[.string wd] 9)).alloc (.cells #[.string m] 9)).alloc (.cells #[.int .i64 n] 2))) := KR.of_below hb h.lR
  have FR : Hid (∀ b, w.heap.size ≤ b → b < w.heap.size + 4 → Fr R lo ((((w.alloc (.cells #[.int .i64 p] 105)).alloc (.cells #[.string wd] 9)).alloc (.cells #[.string m] 9)).alloc (.cells #[.int .i64 n] 2)) b) := fun b h1 h2 => And.intro (h.free_new hb h1 (by first | (simp; done) | (simp; omega))) (Nat.le_trans hlo h1)
  have H : Hid (RSt R w r) := h
  clear h hb
  have hmf : ∀ (fn : Fn) (first cap : Array Value) (w : World), (Instr.makeFunc fn first cap).run Tryz.prog w = .ok (.func fn first cap) w := fun _ _ _ _ => rfl
  go_enter Tryz.func123, Tryz.ntmps123
  go_wp2
  go_ret
  refine ⟨_, rfl, .inr ⟨_, _, _, rfl⟩, HB.out.1.later HB.out.2, K.out, fun hw => ?_⟩
  unfold VNode
  exact ⟨_, _, _, _, rfl, ⟨FR.out _ (by first | exact Nat.le_refl _ | omega | (simp; done) | (simp; omega)) (by first | omega | (simp; done) | (simp; omega)), FR.out _ (by first | exact Nat.le_refl _ | omega | (simp; done) | (simp; omega)) (by first | omega | (simp; done) | (simp; omega)), FR.out _ (by first | exact Nat.le_refl _ | omega | (simp; done) | (simp; omega)) (by first | omega | (simp; done) | (simp; omega)), FR.out _ (by first | exact Nat.le_refl _ | omega | (simp; done) | (simp; omega)) (by first | omega | (simp; done) | (simp; omega))⟩, heap_alloc_old (heap_alloc_old (heap_alloc_old (heap_new8 (by simp)))), heap_alloc_old (heap_alloc_old (heap_new8 (by simp))), heap_alloc_old (heap_new8 (by simp)), heap_new8 (by simp)⟩
set_option maxRecDepth 1000000 in
theorem mk_probe (h : RSt R w r) (hlo : lo ≤ w.heap.size) (p : Nat) (wd : ByteArray) {ts : List Tree} {vs : List Value} {ao : Option Addr} {ln cp : Nat} (hvp : r.wrong = false → (w.ownsRow 0 90 1 (.slice ao ln cp) vs.length vs ∧ ∀ g, (Value.slice ao ln cp).ownBlock = some g → Fr R lo w g) ∧ VNodes (Fr R lo w) w ts vs) : Calls Tryz.prog 124 #[.agg #[.int .i64 p], .string wd, .slice ao ln cp] w fun e w' => ∃ v, e = .returned v ∧ FuncV v ∧ RSt R w' r ∧ KR R w w' ∧ VOk R lo w' r (.probe p wd ts) v := by
  have hb : Below w.heap.size w (((w.alloc (.cells #[.int .i64 p] 105)).alloc (.cells #[.string wd] 9)).alloc (.cells #[.slice ao ln cp] 259)) := ((((Below.refl _ _).alloc (by first | exact Nat.le_refl _ | (simp; done) | (simp; omega)) _).alloc (by first | exact Nat.le_refl _ | (simp; done) | (simp; omega)) _).alloc (by first | exact Nat.le_refl _ | (simp; done) | (simp; omega)) _)
  have HB : Hid _ := And.intro h hb
  have K : Hid (KR R w (((w.alloc (.cells #[.int .i64 p] 105)).alloc (.cells #[.string wd] 9)).alloc (.cells #[.slice ao ln cp] 259))) := KR.of_below hb h.lR
  have FR : Hid (∀ b, w.heap.size ≤ b → b < w.heap.size + 3 → Fr R lo (((w.alloc (.cells #[.int .i64 p] 105)).alloc (.cells #[.string wd] 9)).alloc (.cells #[.slice ao ln cp] 259)) b) := fun b h1 h2 => And.intro (h.free_new hb h1 (by first | (simp; done) | (simp; omega))) (Nat.le_trans hlo h1)
  have H : Hid (RSt R w r) := h
  have HVP : Hid _ := hvp
  clear h hb hvp
  have hmf : ∀ (fn : Fn) (first cap : Array Value) (w : World), (Instr.makeFunc fn first cap).run Tryz.prog w = .ok (.func fn first cap) w := fun _ _ _ _ => rfl
  go_enter Tryz.func124, Tryz.ntmps124
  go_wp2
  go_ret
  refine ⟨_, rfl, .inr ⟨_, _, _, rfl⟩, HB.out.1.later HB.out.2, K.out, fun hw => ?_⟩
  unfold VNode
  exact ⟨_, _, _, _, _, rfl, ⟨FR.out _ (by first | exact Nat.le_refl _ | omega | (simp; done) | (simp; omega)) (by first | omega | (simp; done) | (simp; omega)), FR.out _ (by first | exact Nat.le_refl _ | omega | (simp; done) | (simp; omega)) (by first | omega | (simp; done) | (simp; omega)), FR.out _ (by first | exact Nat.le_refl _ | omega | (simp; done) | (simp; omega)) (by first | omega | (simp; done) | (simp; omega))⟩, heap_new8 (by simp), heap_alloc_old (heap_alloc_old (heap_new8 (by simp))), heap_alloc_old (heap_new8 (by simp)), ⟨owns_of_block (HVP.out hw).1.1 fun g hg => (K.out.vmoves g ((HVP.out hw).1.2 g hg)).2, fun g hg => (K.out.vmoves g ((HVP.out hw).1.2 g hg)).1⟩, (HVP.out hw).2.moves K.out.vmoves⟩
end
end Go.Proofs.YtaghcjpoihkpjaaGreatDoor
