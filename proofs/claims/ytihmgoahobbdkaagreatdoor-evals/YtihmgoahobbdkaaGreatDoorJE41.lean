/-
  THE DOCUMENT'S OWN SIGNS AND MEASURES: scalerref.reckon, (*World).Measured, WALKED.
-/
import Derived.Test.YtihmgoahobbdkaaGreatDoorJE40
import Derived.Deep.QuietTactic
import Derived.BigQuiet
import Derived.Test.YtihmgoahobbdkaaGreatDoorJE22
namespace Go.Proofs.YtihmgoahobbdkaaGreatDoor
open Go.RowKit Go.Lib

/-- A row of numbers that is read. -/
def Row (w : World) (v : Value) (xs : List Int) : Prop := ∃ g cp, v = .slice (some ⟨g, 0, none⟩) xs.length cp ∧ ∀ (i : Nat) (x : Int), xs[i]? = some x → w.cell? ⟨g, i, none⟩ = some (.int .i64 x)
set_option maxRecDepth 1000000 in
theorem ref_reckon_neg {x : Int} {v : Value} {w : World} (hr : Row w v [x]) (hx : In64 x) : Calls Tryz.prog 61 #[.int .u8 126, v] w fun e w' => e = .returned (.int .i64 (clip (-x))) ∧ ∃ n, w' = w.drewN n := by
  obtain ⟨g, cp, rfl, hc⟩ := hr
  have c0 := hc 0 x rfl
  have hn := r_negative hx w
  clear hc
  have hln : ([x] : List Int).length = 1 := rfl
  rw [hln]
  go_enter Tryz.func61, Tryz.ntmps61
  go_wp2_with fail
  refine hn.mono ?_
  rintro e w' ⟨rfl, hw⟩
  have hw := hw.symm
  subst hw
  go_wp2
  go_ret
  exact ⟨rfl, 0, rfl⟩
set_option maxRecDepth 1000000 in
theorem ref_reckon_quot {x y : Int} {v : Value} {w : World} (hr : Row w v [x, y]) (hx : In64 x) (hy : In64 y) (h0 : y ≠ 0) : Calls Tryz.prog 61 #[.int .u8 47, v] w fun e w' => e = .returned (.int .i64 (quot x y)) ∧ ∃ n, w' = w.drewN n := by
  obtain ⟨g, cp, rfl, hc⟩ := hr
  have c0 := hc 0 x rfl
  have c1 := hc 1 y rfl
  have HQ : Hid _ := And.intro hx hy
  clear hc
  have hln : ([x, y] : List Int).length = 2 := rfl
  rw [hln]
  go_enter Tryz.func61, Tryz.ntmps61
  go_wp2_with fail
  go_quiet ((exact Calls.quiet_of_same (r_over HQ.out.1 HQ.out.2 h0 _)))
  go_wp2
  go_ret
  exact ⟨rfl, _, rfl⟩
set_option maxRecDepth 1000000 in
set_option maxHeartbeats 1000000 in
theorem ref_reckon {k : Nat} {x y : Int} {v : Value} {w : World} (hk : k = 43 ∨ k = 45 ∨ k = 42 ∨ k = 60 ∨ k = 62 ∨ k = 61) (hr : Row w v [x, y]) (hx : In64 x) (hy : In64 y) : Calls Tryz.prog 61 #[.int .u8 k, v] w fun e w' => e = .returned (.int .i64 (reck k x y)) ∧ ∃ n, w' = w.drewN n := by
  obtain ⟨g, cp, rfl, hc⟩ := hr
  have c0 := hc 0 x rfl
  have c1 := hc 1 y rfl
  clear hc
  have hln : ([x, y] : List Int).length = 2 := rfl
  rw [hln]
  rcases hk with rfl | rfl | rfl | rfl | rfl | rfl
  · have HQ : Hid _ := And.intro hx hy
    go_enter Tryz.func61, Tryz.ntmps61
    go_wp2_with fail
    go_quiet ((exact Calls.quiet_of_same (r_plus HQ.out.1 HQ.out.2 _)))
    go_wp2
    go_ret
    exact ⟨rfl, _, rfl⟩
  · have HQ : Hid _ := And.intro hx hy
    go_enter Tryz.func61, Tryz.ntmps61
    go_wp2_with fail
    go_quiet ((exact Calls.quiet_of_same (r_less HQ.out.1 HQ.out.2 _)))
    go_wp2
    go_ret
    exact ⟨rfl, _, rfl⟩
  · have HQ : Hid _ := And.intro hx hy
    go_enter Tryz.func61, Tryz.ntmps61
    go_wp2_with fail
    go_quiet ((exact Calls.quiet_of_same (r_times HQ.out.1 HQ.out.2 _)))
    go_wp2
    go_ret
    exact ⟨rfl, _, rfl⟩
  · by_cases h : x < y
    · have HR : Hid (reck 60 x y = 1) := by show reck 60 x y = _; unfold reck; simp [h]
      go_enter Tryz.func61, Tryz.ntmps61
      go_wp2_with fail
      go_quiet (fail)
      go_wp2
      go_ret
      exact ⟨by rw [HR.out]; rfl, _, rfl⟩
    · have HR : Hid (reck 60 x y = 0) := by show reck 60 x y = _; unfold reck; simp [h]
      go_enter Tryz.func61, Tryz.ntmps61
      go_wp2_with fail
      go_quiet (fail)
      go_wp2
      go_ret
      exact ⟨by rw [HR.out]; rfl, _, rfl⟩
  · by_cases h : y < x
    · have HR : Hid (reck 62 x y = 1) := by show reck 62 x y = _; unfold reck; simp [h]
      go_enter Tryz.func61, Tryz.ntmps61
      go_wp2_with fail
      go_quiet (fail)
      go_wp2
      go_ret
      exact ⟨by rw [HR.out]; rfl, _, rfl⟩
    · have HR : Hid (reck 62 x y = 0) := by show reck 62 x y = _; unfold reck; simp [h]
      go_enter Tryz.func61, Tryz.ntmps61
      go_wp2_with fail
      go_quiet (fail)
      go_wp2
      go_ret
      exact ⟨by rw [HR.out]; rfl, _, rfl⟩
  · by_cases h : x = y
    · have HR : Hid (reck 61 x y = 1) := by show reck 61 x y = _; unfold reck; simp [h]
      have hb : (x == y) = true := by simpa using h
      go_enter Tryz.func61, Tryz.ntmps61
      go_wp2_with fail
      go_quiet (fail)
      go_wp2
      go_ret
      exact ⟨by rw [HR.out]; rfl, _, rfl⟩
    · have HR : Hid (reck 61 x y = 0) := by show reck 61 x y = _; unfold reck; simp [h]
      have hb : (x == y) = false := by simpa using h
      go_enter Tryz.func61, Tryz.ntmps61
      go_wp2_with fail
      go_quiet (fail)
      go_wp2
      go_ret
      exact ⟨by rw [HR.out]; rfl, _, rfl⟩
theorem heap_alloc_new9 (w : World) (cs : Array Value) {T : TypeId} {n : Nat} (h : n = w.heap.size) : (w.alloc (.cells cs T)).heap[n]? = some (.cells cs T (0, 0)) := by subst h; exact block_new w cs T
/-- The document's world in memory. -/
abbrev WorldR (w : World) (R : Nat) (cv : Value) (seed T : Int) (tr : ByteArray) : Prop := w.heap[R]? = some (.cells #[cv, .int .i64 seed, .int .i64 T, .string tr] 99 (0, 0))
/-- What is written down of a measure, and of a probe. -/
def trMeas (tr kind metric : ByteArray) : ByteArray := tr ++ kind ++ ⟨#[32]⟩ ++ metric ++ ⟨#[59]⟩
def trProbe (tr nm : ByteArray) : ByteArray := tr ++ nm ++ ⟨#[59]⟩
set_option maxRecDepth 1000000 in
set_option maxHeartbeats 1000000 in
theorem ref_Measured {R : Nat} {seed T n : Int} {tr kind metric : ByteArray} {w : World} (hW : WorldR w R (.pointer none) seed T tr) (ht : tr.size ≤ 1000000000) (hk : kind.size < 256) (hm : metric.size < 256) :
    Calls Tryz.prog 58 #[ptr R, .string kind, .string metric, .int .i64 n] w fun e w' => e = .returned (.agg #[.int .i64 (made (mixed kind metric n seed)).1, .int .i64 (made (mixed kind metric n seed)).2]) ∧ Keep R w w' ∧ WorldR w' R (.pointer none) seed T (trMeas tr kind metric) := by
  have c0 : w.cell? ⟨R, 0, none⟩ = some (.pointer none) := cell_of_heap hW rfl
  have c1 : w.cell? ⟨R, 1, none⟩ = some (.int .i64 seed) := cell_of_heap hW rfl
  have c3 : w.cell? ⟨R, 3, none⟩ = some (.string tr) := cell_of_heap hW rfl
  have z3 : w.frozen? ⟨R, 3, none⟩ = false := frozen_of_heap hW
  have lR := heap_lt hW
  have s1 : (tr ++ kind).size = tr.size + kind.size := by simp
  have s2 : (tr ++ kind ++ (⟨#[32]⟩ : ByteArray)).size = tr.size + kind.size + 1 := by simp; rfl
  have s3 : (tr ++ kind ++ (⟨#[32]⟩ : ByteArray) ++ metric).size = tr.size + kind.size + 1 + metric.size := by rw [ByteArray.size_append, s2]
  have HW : Hid _ := hW
  clear hW
  go_enter Tryz.func58, Tryz.ntmps58
  go_wp2_with fail
  refine (ref_Told kind metric (by omega) (by omega) _).mono ?_
  rintro e w2 ⟨rfl, hb2⟩
  have HB2 : Hid _ := hb2
  have q0 := (hb2.block w.heap.size (by simp)).trans (heap_alloc_new9 _ _ (by simp))
  have rc0 := cell_of_heap (i := 0) (v := .int .i64 0) q0 rfl
  have rc1 := cell_of_heap (i := 1) (v := .int .i64 0) q0 rfl
  have rz0 := frozen_of_heap (i := 0) q0
  have rz1 := frozen_of_heap (i := 1) q0
  clear hb2 q0
  go_wp2
  refine bodyPost_ret (v := .agg #[.int .i64 (made (mixed kind metric n seed)).1, .int .i64 (made (mixed kind metric n seed)).2]) (by simp [results, Tryz.results58, go_sem, rc0, rc1]) rfl ?_
  refine ⟨rfl, ?_, ?_⟩
  · refine (Keep.setNew (Keep.setNew ?_ (by simp) _) (by simp) _)
    exact ((Keep.refl R w).setR 3 _).alloc _ |>.trans (.of_below HB2.out)
  · refine heap_set_other (heap_set_other ((HB2.out.block R (by simp; omega)).trans (heap_alloc_old (heap_set_same HW.out))) (by simp; omega)) (by simp; omega)
theorem trMeas_size (tr kind metric : ByteArray) : (trMeas tr kind metric).size = tr.size + kind.size + 1 + metric.size + 1 := by
  unfold trMeas
  rw [ByteArray.size_append, ByteArray.size_append, ByteArray.size_append, ByteArray.size_append]
  rfl
theorem trProbe_size (tr nm : ByteArray) : (trProbe tr nm).size = tr.size + nm.size + 1 := by
  unfold trProbe
  rw [ByteArray.size_append, ByteArray.size_append]
  rfl
end Go.Proofs.YtihmgoahobbdkaaGreatDoor
namespace Go.Proofs.YtihmgoahobbdkaaGreatDoor
open Go.RowKit Go.Lib

section
variable {σ : Type}
/-- What is told of a state where so many asks are left. -/
structure Fuel (N : Nat) (SF : Nat → σ → World → Prop) : Prop where
  base : ∀ k s w, SF k s w → N ≤ w.heap.size
  same : ∀ k s w w', SF k s w → Below N w w' → SF k s w'
  less : ∀ k s w, SF (k + 1) s w → SF k s w
theorem Fuel.lessBy {N : Nat} {SF : Nat → σ → World → Prop} (h : Fuel N SF) : ∀ (a k : Nat) (s : σ) (w : World), SF (k + a) s w → SF k s w
  | 0, _, _, _, q => q
  | a + 1, k, s, w, q => h.lessBy a k s w (h.less _ _ _ q)
theorem Fuel.stable {N : Nat} {SF : Nat → σ → World → Prop} (h : Fuel N SF) (k : Nat) : Stable (SF k) := fun s w w' hs hb => h.same k s w w' hs (hb.mono (h.base k s w hs))
/-- A function in memory works a value out and spends at most a asks, now and whenever nothing but block R was turned. -/
def RunsF (A : Nat → Addr) (SF : Nat → σ → World → Prop) (a : Nat) (R : Nat) (lv mv : Value) (v : Value) (m : σ → Res × σ) (w0 : World) : Prop :=
  ∃ f caps, v = .func (.func f) #[] caps ∧ (∀ (args : Array Value) (w : World), (callFunc f (args ++ caps)).run Tryz.prog w = .ok (.enter f (args ++ caps)) w) ∧
    ∀ k s w, Keep R w0 w → SF (k + a) s w → Calls Tryz.prog f (#[.agg #[lv, mv]] ++ caps) w fun e w' => Keep R w w' ∧ EvR A (SF k) (m s) w' e
theorem RunsF.more {N a b : Nat} {A : Nat → Addr} {SF : Nat → σ → World → Prop} {R : Nat} {lv mv v : Value} {m : σ → Res × σ} {w0 : World} (hS : Fuel N SF) (h : RunsF A SF a R lv mv v m w0) (hab : a ≤ b) : RunsF A SF b R lv mv v m w0 := by
  obtain ⟨f, caps, h1, h2, h3⟩ := h
  exact ⟨f, caps, h1, h2, fun k s w kp hs => h3 k s w kp (hS.lessBy (b - a) _ _ _ (by rw [show k + a + (b - a) = k + b by omega]; exact hs))⟩
variable {A : Nat → Addr} {SF : Nat → σ → World → Prop} {N R : Nat} {lv mv : Value} {w0 : World}
set_option maxRecDepth 1000000 in
theorem runsF_num (hS : Fuel N SF) {b : Nat} {n : Int} (hn : In64 n) (hb : One w0 b (.int .i64 n) 2) (hbR : b ≠ R) : RunsF A SF 0 R lv mv (.func (.func 142) #[] #[ptr b]) (fun s => (.val n, s)) w0 := by
  refine ⟨_, _, rfl, fun args w => by rfl, fun k s w hk hs => ?_⟩
  have hbw : One w b (.int .i64 n) 2 := hk.heap hb hbR
  have c0 : w.cell? ⟨b, 0, none⟩ = some (.int .i64 n) := cell_of_heap hbw rfl
  have lb := heap_lt hbw
  have hs : SF k s w := hs
  have hS := hS.stable k
  have HS : Hid _ := And.intro hs hS
  clear hs hS
  go_enter Tryz.func142, Tryz.ntmps142
  go_wp2
  go_ret2
  exact ⟨(Keep.refl R w).alloc _, rfl, hn, HS.out.2 _ _ _ HS.out.1 ((Below.refl _ _).alloc (Nat.le_refl _) _)⟩
set_option maxRecDepth 1000000 in
theorem runsF_neg (hS : Fuel N SF) {a b : Nat} {va : Value} {m : σ → Res × σ} (hm : RunsF A SF a R lv mv va m w0) (hb : One w0 b va 140) (hbR : b ≠ R) : RunsF A SF a R lv mv (.func (.func 144) #[] #[ptr b]) (onVal m fun n s => (.val (clip (-n)), s)) w0 := by
  obtain ⟨f, caps, rfl, hcf, hm⟩ := hm
  refine ⟨_, _, rfl, fun args w => by rfl, fun k s w hk hs => ?_⟩
  have hbw : One w b (.func (.func f) #[] caps) 140 := hk.heap hb hbR
  have c0 : w.cell? ⟨b, 0, none⟩ = some (.func (.func f) #[] caps) := cell_of_heap hbw rfl
  have lb := heap_lt hbw
  have K1 : Hid (Keep R w (w.alloc (.cells #[lv, mv] 149))) := (Keep.refl R w).alloc _
  have hm := hm k s (w.alloc (.cells #[lv, mv] 149)) (hk.trans K1.out) (hS.stable _ _ _ _ hs ((Below.refl _ _).alloc (Nat.le_refl _) _))
  have hcf := hcf #[.agg #[lv, mv]]
  clear hs hS hk hb
  go_enter Tryz.func144, Tryz.ntmps144
  go_wp2_with fail
  refine hm.mono ?_
  rintro e w1 ⟨hk1, he⟩
  have K2 : Hid (Keep R w w1) := K1.out.trans hk1
  clear hm hk1 K1
  generalize hM : m s = r1 at he
  obtain ⟨r, s1⟩ := r1
  have HM : Hid _ := hM
  clear hM
  cases r with
  | val n =>
    obtain ⟨rfl, hn, hs1⟩ := he
    have hng := b_Negative hn w1
    have HS1 : Hid _ := hs1
    clear hs1
    go_wp2_with fail
    refine hng.mono ?_
    rintro e w2 ⟨rfl, hw⟩
    have hw := hw.symm
    subst hw
    clear hng
    go_wp2
    go_ret2
    refine ⟨K2.out, ?_⟩
    simp only [onVal, HM.out]
    exact ⟨rfl, clip_in _, HS1.out⟩
  | held p y =>
    obtain ⟨b1, T, x, rfl, h2⟩ := he
    have H2 : Hid _ := h2
    clear h2
    go_wp2
    go_ret2
    refine ⟨K2.out, ?_⟩
    simp only [onVal, HM.out]
    exact ⟨b1, T, x, rfl, H2.out⟩
set_option maxRecDepth 1000000 in
set_option maxHeartbeats 1000000 in
theorem codeF_both (hS : Fuel N SF) {k a1 a2 : Nat} {v1 v2 : Value} {m1 m2 : σ → Res × σ} (h1 : RunsF A SF a1 R lv mv v1 m1 w0) (h2 : RunsF A SF a2 R lv mv v2 m2 w0) {s : σ} {w : World} (hk : Keep R w0 w) (hR : R < w.heap.size) (hs : SF (k + (a1 + a2)) s w) :
    Calls Tryz.prog 147 #[.agg #[lv, mv], v1, v2] w fun e w' => Keep R w w' ∧ BothR A (SF k) m1 m2 s w' e := by
  obtain ⟨f1, caps1, rfl, hcf1, h1⟩ := h1
  obtain ⟨f2, caps2, rfl, hcf2, h2⟩ := h2
  have K1 : Hid (Keep R w (w.alloc (.cells #[lv, mv] 149))) := (Keep.refl R w).alloc _
  have hs : SF (k + a2 + a1) s w := by rw [show k + a2 + a1 = k + (a1 + a2) by omega]; exact hs
  have h1 := h1 (k + a2) s (w.alloc (.cells #[lv, mv] 149)) (hk.trans K1.out) (hS.stable _ _ _ _ hs ((Below.refl _ _).alloc (Nat.le_refl _) _))
  have HS : Hid (Fuel N SF) := hS
  have H2 : Hid _ := h2
  have HK : Hid _ := hk
  have hcf1 := hcf1 #[.agg #[lv, mv]]
  have hcf2 := hcf2 #[.agg #[lv, mv]]
  clear hs hS hk h2
  go_enter Tryz.func147, Tryz.ntmps147
  go_wp2_with fail
  refine h1.mono ?_
  rintro e w1 ⟨hk1, he⟩
  have K2 : Hid (Keep R w w1) := K1.out.trans hk1
  have B1 : Hid (w1.heap[w.heap.size]? = some (.cells #[lv, mv] 149 (0, 0))) := (hk1.block _ (by simp) (by omega)).trans (heap_alloc_new _ _)
  have c0 : w1.cell? ⟨w.heap.size, 0, none⟩ = some lv := cell_of_heap B1.out rfl
  have c1 : w1.cell? ⟨w.heap.size, 1, none⟩ = some mv := cell_of_heap B1.out rfl
  have lb := heap_lt B1.out
  clear h1 hk1 K1
  generalize hM : m1 s = r1 at he
  obtain ⟨r, s1⟩ := r1
  have HM : Hid _ := hM
  clear hM
  cases r with
  | held p y =>
    obtain ⟨b1, T, x, rfl, h2⟩ := he
    have H3 : Hid _ := h2
    clear h2
    go_wp2
    refine bodyPost_ret (v := .tuple #[.int .i64 0, .int .i64 0, .iface 118 (ptr b1)]) (by simp [results, Tryz.results147, go_sem]) rfl ?_
    refine ⟨K2.out, .inr ⟨p, y, s1, b1, T, x, rfl, H3.out.1, H3.out.2.1, HS.out.lessBy _ _ _ _ H3.out.2.2, fun k => ?_⟩⟩
    simp only [onBoth, onVal, HM.out]
  | val x =>
    obtain ⟨rfl, hn, hs1⟩ := he
    have h2 := H2.out k s1 w1 (HK.out.trans K2.out) hs1
    have HN : Hid (In64 x) := hn
    clear hs1 hn
    go_wp2_with fail
    refine h2.mono ?_
    rintro e w2 ⟨hk2, he⟩
    have K3 : Hid (Keep R w w2) := K2.out.trans hk2
    clear h2 hk2
    generalize hM2 : m2 s1 = r2 at he
    obtain ⟨r, s2⟩ := r2
    have HM2 : Hid _ := hM2
    clear hM2
    cases r with
    | held p y =>
      obtain ⟨b1, T, z, rfl, h2⟩ := he
      have H3 : Hid _ := h2
      clear h2
      go_wp2
      refine bodyPost_ret (v := .tuple #[.int .i64 0, .int .i64 0, .iface 118 (ptr b1)]) (by simp [results, Tryz.results147, go_sem]) rfl ?_
      refine ⟨K3.out, .inr ⟨p, y, s2, b1, T, z, rfl, H3.out.1, H3.out.2.1, H3.out.2.2, fun k => ?_⟩⟩
      simp only [onBoth, onVal, HM.out, HM2.out]
    | val y =>
      obtain ⟨rfl, hn, hs2⟩ := he
      have H3 : Hid _ := And.intro hn hs2
      clear hn hs2
      go_wp2
      refine bodyPost_ret (v := .tuple #[.int .i64 x, .int .i64 y, .nilIface]) (by simp [results, Tryz.results147, go_sem]) rfl ?_
      refine ⟨K3.out, .inl ⟨x, y, s2, rfl, HN.out, H3.out.1, H3.out.2, fun k => ?_⟩⟩
      simp only [onBoth, onVal, HM.out, HM2.out]
end
end Go.Proofs.YtihmgoahobbdkaaGreatDoor
