/-
  THE DOCUMENT'S OWN EVAL, WALKED: choices, and every tree.
-/
import Derived.Test.YtihmgoahobbdkaaGreatDoorJE46
import Derived.Test.YtihmgoahobbdkaaGreatDoorJE45
import Derived.Test.YtihmgoahobbdkaaGreatDoorJE40
namespace Go.Proofs.YtihmgoahobbdkaaGreatDoor
open Go.RowKit Go.Lib

section
variable {w1 w0 : World} {R : Nat} {cv : Value} {seed T : Int} {M : ByteArray → ByteArray → Int → Int × Int}
set_option maxRecDepth 1000000 in
set_option maxHeartbeats 2000000 in
theorem refrun_ite {a1 a2 p : Nat} {v v1 v2 v3 : Value} {m1 m2 m3 : ByteArray → Res × ByteArray} (hR : R < w0.heap.size) (h : NodeAt (fun b => b ≠ R) w0 v 63 p 0 noBytes noBytes [v1, v2, v3]) (h1 : RefRun w1 R cv seed T a1 v1 m1 w0) (h2 : RefRun w1 R cv seed T a2 v2 m2 w0) (h3 : RefRun w1 R cv seed T a2 v3 m3 w0) :
    RefRun w1 R cv seed T (a1 + a2) v (onVal m1 fun n s => if n ≠ 0 then m2 s else m3 s) w0 := by
  obtain ⟨b, pv, rfl, hb, hblk, hparts⟩ := h
  obtain ⟨ao, cp, rfl, hat⟩ := hparts.at
  intro kf tr w hk hs
  have hblk := hk.heap hblk hb
  have lw : w0.heap.size ≤ w.heap.size := hk.size
  obtain ⟨q, cur, rfl, hqR, hq1, hq2⟩ := hat 0 v1 rfl
  obtain ⟨q', cur', e1, -, hq1', hq2'⟩ := hat 1 v2 rfl
  injection e1 with e1
  injection e1 with e1
  subst e1
  rw [hq1] at hq1'
  injection hq1' with hq1'
  injection hq1' with hq1'
  subst hq1'
  obtain ⟨q', cur', e1, -, hq1', hq3'⟩ := hat 2 v3 rfl
  injection e1 with e1
  injection e1 with e1
  subst e1
  rw [hq1] at hq1'
  injection hq1' with hq1'
  injection hq1' with hq1'
  subst hq1'
  have hqw := hk.heap hq1 hqR
  have c0 : w.cell? ⟨b, 0, none⟩ = some (.int .u8 63) := cell_of_heap hblk rfl
  have c5 : w.cell? ⟨b, 5, none⟩ = some (.slice (some ⟨q, 0, none⟩) 3 cp) := cell_of_heap hblk rfl
  have d0 : w.cell? ⟨q, 0, none⟩ = some v1 := cell_of_heap hqw hq2
  have lb := heap_lt hblk
  have lq := heap_lt hqw
  have HB : Hid _ := And.intro hblk (And.intro hqw (And.intro hq2' hq3'))
  have bx : Below w.heap.size w (w.alloc (.cells #[.int .i64 0, .int .i64 0, .int .i64 0, .int .i64 0] 101)) := (Below.refl _ _).alloc (Nat.le_refl _) _
  have hst : SR w1 R cv seed T (kf + a2 + a1) tr (w.alloc (.cells #[.int .i64 0, .int .i64 0, .int .i64 0, .int .i64 0] 101)) := by
    rw [show kf + a2 + a1 = kf + (a1 + a2) by omega]
    exact hs.below bx
  have hc := h1 (kf + a2) tr _ (hk.trans (.of_below bx)) hst
  have HH : Hid _ := And.intro h2 (And.intro h3 hk)
  have K01 : Hid (Keep R w1 w) := hs.1
  have hRw : R < w.heap.size := by omega
  clear hst bx hs hk h1 h2 h3 hblk hqw hq1 hq2 hat hparts hq2' hq3'
  generalize hM : m1 tr = r1 at hc
  obtain ⟨r, t2⟩ := r1
  have HM : Hid (m1 tr = (r, t2)) := hM
  clear hM
  unfold valV at hc
  simp only at hc
  cases r with
  | held q9 y =>
    have hE : (resE (.held q9 y) != 0) = true := by cases y <;> rfl
    obtain ⟨E, HE⟩ : ∃ E, Hid (resE (.held q9 y) = E) := ⟨_, rfl⟩
    obtain ⟨F, HF⟩ : ∃ F, Hid (resM (.held q9 y) = F) := ⟨_, rfl⟩
    rw [HE.out] at hc hE
    rw [HF.out] at hc
    simp only [resN, resP] at hc
    go_enter Tryz.func37, Tryz.ntmps37
    go_wp2_with fail
    refine hc.mono ?_
    rintro e w7 ⟨hk7, rfl, hs7, hin7⟩
    have b2 := (hk7.block _ (by simp) (by omega)).trans (heap_alloc_new _ _)
    have rc0 := cell_of_heap (i := 0) (v := .int .i64 0) b2 rfl
    have rc1 := cell_of_heap (i := 1) (v := .int .i64 0) b2 rfl
    have rc2 := cell_of_heap (i := 2) (v := .int .i64 0) b2 rfl
    have rc3 := cell_of_heap (i := 3) (v := .int .i64 0) b2 rfl
    have rz0 := frozen_of_heap (i := 0) b2
    have rz1 := frozen_of_heap (i := 1) b2
    have rz2 := frozen_of_heap (i := 2) b2
    have rz3 := frozen_of_heap (i := 3) b2
    have l7 := heap_lt b2
    have H7 : Hid _ := And.intro (((Keep.refl R w).alloc _).trans hk7) hs7
    clear b2 hk7 hs7 hin7 hc
    go_wp2
    refine bodyPost_ret (v := valV (.held q9 y)) (by simp [valV, resN, resP, HE.out, HF.out, results, Tryz.results37, go_sem, rc0, rc1, rc2, rc3, l7]) rfl ?_
    rw [onVal_held HM.out]
    have q := set4 H7.out.1 H7.out.2.2.1 hRw (.int .i64 0) (.int .i64 E) (.int .i64 q9) (.int .i64 F)
    exact ⟨q.1.alloc _, rfl, ⟨K01.out.trans (q.1.alloc _), heap_alloc_old q.2, by have := H7.out.2.2.2; simp only; omega⟩, by unfold In64; simp [resN]⟩
  | val x =>
    simp only [resN, resE, resP, resM] at hc
    go_enter Tryz.func37, Tryz.ntmps37
    go_wp2_with fail
    refine hc.mono ?_
    rintro e w7 ⟨hk7, rfl, hs7, hin7⟩
    have hk07 : Keep R w w7 := ((Keep.refl R w).alloc _).trans hk7
    have b2 : w7.heap[w.heap.size]? = some (.cells #[.int .i64 0, .int .i64 0, .int .i64 0, .int .i64 0] 101 (0, 0)) := (hk7.block _ (by simp) (by omega)).trans (heap_alloc_new _ _)
    have c57 : w7.cell? ⟨b, 5, none⟩ = some (.slice (some ⟨q, 0, none⟩) 3 cp) := cell_of_heap (hk07.heap HB.out.1 hb) rfl
    have d17 : w7.cell? ⟨q, 1, none⟩ = some v2 := cell_of_heap (hk07.heap HB.out.2.1 hqR) HB.out.2.2.1
    have d27 : w7.cell? ⟨q, 2, none⟩ = some v3 := cell_of_heap (hk07.heap HB.out.2.1 hqR) HB.out.2.2.2
    have lb7 : b < w7.heap.size := by have := hk07.size; omega
    have lq7 : q < w7.heap.size := by have := hk07.size; omega
    have lw7 : w.heap.size < w7.heap.size := heap_lt b2
    have H7 : Hid (Keep R w w7 ∧ SR w1 R cv seed T (kf + a2) t2 w7 ∧ w7.heap[w.heap.size]? = some (.cells #[.int .i64 0, .int .i64 0, .int .i64 0, .int .i64 0] 101 (0, 0))) := ⟨hk07, hs7, b2⟩
    clear b2 hk7 hs7 hin7 hc hk07
    by_cases h0 : x = 0
    · subst h0
      have hc2 := HH.out.2.1 kf t2 (w7.alloc (.cells #[.int .i64 0, .int .i64 0, .int .i64 0, .int .i64 0] 101)) (HH.out.2.2.trans (H7.out.1.alloc _)) (H7.out.2.1.below ((Below.refl _ _).alloc (Nat.le_refl _) _))
      have HE : Hid (onVal m1 (fun n s => if n ≠ 0 then m2 s else m3 s) tr = m3 t2) := by
        show onVal m1 _ tr = _
        rw [onVal_val HM.out]
        simp
      generalize m3 t2 = r2 at *
      obtain ⟨r2, t3⟩ := r2
      unfold valV at hc2
      simp only at hc2
      go_wp2_with fail
      refine hc2.mono ?_
      rintro e w8 ⟨hk8, rfl, hs8, hin8⟩
      have b2 := (hk8.block _ (by simp; omega) (by omega)).trans (heap_alloc_old H7.out.2.2)
      have rc0 := cell_of_heap (i := 0) (v := .int .i64 0) b2 rfl
      have rc1 := cell_of_heap (i := 1) (v := .int .i64 0) b2 rfl
      have rc2 := cell_of_heap (i := 2) (v := .int .i64 0) b2 rfl
      have rc3 := cell_of_heap (i := 3) (v := .int .i64 0) b2 rfl
      have rz0 := frozen_of_heap (i := 0) b2
      have rz1 := frozen_of_heap (i := 1) b2
      have rz2 := frozen_of_heap (i := 2) b2
      have rz3 := frozen_of_heap (i := 3) b2
      have l7 := heap_lt b2
      have H8 : Hid _ := And.intro ((H7.out.1.alloc _).trans hk8) (And.intro hs8 hin8)
      clear b2 hk8 hs8 hin8 hc2
      go_wp2
      refine bodyPost_ret (v := valV r2) (by simp [valV, results, Tryz.results37, go_sem, rc0, rc1, rc2, rc3]) rfl ?_
      rw [HE.out]
      have q := set4 H8.out.1 H8.out.2.1.2.1 hRw (.int .i64 (resN r2)) (.int .i64 (resE r2)) (.int .i64 (resP r2)) (.int .i64 (resM r2))
      exact ⟨q.1, rfl, ⟨K01.out.trans q.1, q.2, H8.out.2.1.2.2⟩, H8.out.2.2⟩
    · have e0 : (x != 0) = true := by rw [bne_iff_ne]; exact h0
      have hc2 := HH.out.1 kf t2 (w7.alloc (.cells #[.int .i64 x, .int .i64 0, .int .i64 0, .int .i64 0] 101)) (HH.out.2.2.trans (H7.out.1.alloc _)) (H7.out.2.1.below ((Below.refl _ _).alloc (Nat.le_refl _) _))
      have HE : Hid (onVal m1 (fun n s => if n ≠ 0 then m2 s else m3 s) tr = m2 t2) := by
        show onVal m1 _ tr = _
        rw [onVal_val HM.out]
        simp [h0]
      generalize m2 t2 = r2 at *
      obtain ⟨r2, t3⟩ := r2
      unfold valV at hc2
      simp only at hc2
      go_wp2_with fail
      refine hc2.mono ?_
      rintro e w8 ⟨hk8, rfl, hs8, hin8⟩
      have b2 := (hk8.block _ (by simp; omega) (by omega)).trans (heap_alloc_old H7.out.2.2)
      have rc0 := cell_of_heap (i := 0) (v := .int .i64 0) b2 rfl
      have rc1 := cell_of_heap (i := 1) (v := .int .i64 0) b2 rfl
      have rc2 := cell_of_heap (i := 2) (v := .int .i64 0) b2 rfl
      have rc3 := cell_of_heap (i := 3) (v := .int .i64 0) b2 rfl
      have rz0 := frozen_of_heap (i := 0) b2
      have rz1 := frozen_of_heap (i := 1) b2
      have rz2 := frozen_of_heap (i := 2) b2
      have rz3 := frozen_of_heap (i := 3) b2
      have l7 := heap_lt b2
      have H8 : Hid _ := And.intro ((H7.out.1.alloc _).trans hk8) (And.intro hs8 hin8)
      clear b2 hk8 hs8 hin8 hc2
      go_wp2
      refine bodyPost_ret (v := valV r2) (by simp [valV, results, Tryz.results37, go_sem, rc0, rc1, rc2, rc3]) rfl ?_
      rw [HE.out]
      have q := set4 H8.out.1 H8.out.2.1.2.1 hRw (.int .i64 (resN r2)) (.int .i64 (resE r2)) (.int .i64 (resP r2)) (.int .i64 (resM r2))
      exact ⟨q.1, rfl, ⟨K01.out.trans q.1, q.2, H8.out.2.1.2.2⟩, H8.out.2.2⟩
/-- What the document's world tells of numbers. -/
structure MeasOk (w1 : World) (R : Nat) (cv : Value) (seed T : Int) (M : ByteArray → ByteArray → Int → Int × Int) : Prop where
  tells : MeasF w1 R cv seed T M
  err : ∀ kind metric n, (M kind metric n).2 = 0 ∨ (M kind metric n).2 = 9 ∨ (M kind metric n).2 = 11
  i64 : ∀ kind metric n, In64 (M kind metric n).1
theorem onAll_one (m : ByteArray → Res × ByteArray) (p : Nat) : onAll [m] (refFin 126 p noBytes) = onVal m fun n s => (.val (clip (-n)), s) := by
  funext s
  simp only [onAll, onVal, refFin]
  rfl
theorem onAll_two {k : Nat} (h : k ≠ 112) (m1 m2 : ByteArray → Res × ByteArray) (p : Nat) : onAll [m1, m2] (refFin k p noBytes) = if k = 47 then onBoth m1 m2 fun x y s => (if y = 0 then .held p .divide else .val (quot x y), s) else onBoth m1 m2 fun x y s => (.val (reck k x y), s) := by
  funext s
  by_cases hk : k = 47
  · subst hk
    simp only [onAll, onBoth, onVal, refFin]
    rfl
  · simp only [onAll, onBoth, onVal, refFin, if_neg hk, if_neg h]
theorem IsNodes.length {P : Nat → Prop} {w : World} : ∀ {ts : List Tree} {vs : List Value}, IsNodes P w ts vs → vs.length = ts.length
  | [], vs, h => by unfold IsNodes at h; subst h; rfl
  | t :: ts, vs, h => by
    unfold IsNodes at h
    obtain ⟨v, vs', rfl, -, h2⟩ := h
    simp [IsNodes.length h2]
theorem sizes_sum : ∀ ts : List Tree, (ts.map size).sum = sizes ts
  | [] => by simp [sizes]
  | t :: ts => by simp [sizes, sizes_sum ts]
mutual
theorem ref_tree (hM : MeasOk w1 R cv seed T M) (hR : R < w0.heap.size) : ∀ (t : Tree) (v : Value), Fit t → IsNode (fun b => b ≠ R) w0 t v → RefRun w1 R cv seed T (size t) v (ev (refEnv M) t) w0
  | .num p n, v, hf, hv => by
    unfold IsNode at hv
    unfold Fit at hf
    simp only [ev]
    exact (refrun_num (by unfold In64; omega) hv).more (Nat.zero_le _)
  | .neg p a, v, hf, hv => by
    unfold IsNode at hv
    unfold Fit at hf
    obtain ⟨va, h1, h2⟩ := hv
    have ra := ref_tree hM hR a va hf h2
    have hr := refrun_args (ms := [ev (refEnv M) a]) (cs := [size a]) hR h1 (by decide) (.inr (.inl ⟨rfl, rfl⟩)) rfl rfl (by simp) (fun i v m c h3 h4 h5 => by
      match i, h3, h4, h5 with
      | 0, h3, h4, h5 =>
        simp at h3 h4 h5
        subst h3 h4 h5
        exact ra)
    rw [onAll_one] at hr
    simp only [ev]
    exact hr.more (by simp [size])
  | .bin k p a c, v, hf, hv => by
    unfold IsNode at hv
    unfold Fit at hf
    obtain ⟨va, vc, h1, h2, h3⟩ := hv
    have ra := ref_tree hM hR a va hf.2.2.1 h2
    have rc := ref_tree hM hR c vc hf.2.2.2 h3
    have hk : k = 47 ∨ k = 43 ∨ k = 45 ∨ k = 42 ∨ k = 60 ∨ k = 62 ∨ k = 61 := by
      rcases hf.1 with h | h
      · exact .inr (isReck_cases h)
      · exact .inl h
    have hr := refrun_args (ms := [ev (refEnv M) a, ev (refEnv M) c]) (cs := [size a, size c]) hR h1 (by decide) (.inr (.inr ⟨rfl, hk⟩)) rfl rfl (by simp) (fun i v m e h4 h5 h6 => by
      match i, h4, h5, h6 with
      | 0, h4, h5, h6 =>
        simp at h4 h5 h6
        subst h4 h5 h6
        exact ra
      | 1, h4, h5, h6 =>
        simp at h4 h5 h6
        subst h4 h5 h6
        exact rc)
    rw [onAll_two (by omega)] at hr
    simp only [ev]
    exact hr.more (by simp [size])
  | .ite p a c d, v, hf, hv => by
    unfold IsNode at hv
    unfold Fit at hf
    obtain ⟨va, vb, vc, h1, h2, h3, h4⟩ := hv
    have ra := ref_tree hM hR a va hf.1 h2
    have rb := ref_tree hM hR c vb hf.2.1 h3
    have rc := ref_tree hM hR d vc hf.2.2 h4
    simp only [ev]
    exact (refrun_ite (a2 := size c + size d) hR h1 ra (rb.more (by omega)) (rc.more (by omega))).more (by simp [size]; omega)
  | .meas p wd m n, v, hf, hv => by
    unfold IsNode at hv
    unfold Fit at hf
    simp only [ev]
    exact (refrun_meas hM.tells hM.err hM.i64 (by omega) (by omega) (by omega) (by omega) hf.2.2.2.1 hv).more (by simp [size])
  | .probe p wd ts, v, hf, hv => by
    unfold IsNode at hv
    unfold Fit at hf
    obtain ⟨vs, h1, h2⟩ := hv
    have hlen := h2.length
    have rs := ref_trees hM hR ts vs hf.2.2.2.2.2 h2
    have hr := refrun_args (ms := evAll (refEnv M) ts) (cs := ts.map size) hR h1 (by omega) (.inl rfl) (by rw [evAll_length, hlen]) (by rw [List.length_map, hlen]) (by omega) rs
    have e : onAll (evAll (refEnv M) ts) (refFin 112 p wd) = ev (refEnv M) (.probe p wd ts) := by
      simp only [ev]
      congr 1
      funext xs s
      show _ = probed p (pfoundOf (asked wd xs), trProbe s wd)
      rw [probed_of (asked_e wd xs)]
      unfold refFin
      rw [if_pos rfl]
    rw [e] at hr
    exact hr.more (by rw [sizes_sum]; simp [size])
theorem ref_trees (hM : MeasOk w1 R cv seed T M) (hR : R < w0.heap.size) : ∀ (ts : List Tree) (vs : List Value), FitAll ts → IsNodes (fun b => b ≠ R) w0 ts vs → ∀ (i : Nat) (v : Value) (m : ByteArray → Res × ByteArray) (c : Nat), vs[i]? = some v → (evAll (refEnv M) ts)[i]? = some m → (ts.map size)[i]? = some c → RefRun w1 R cv seed T c v m w0
  | [], vs, _, hv => by
    unfold IsNodes at hv
    subst hv
    intro i v m c h
    simp at h
  | t :: ts, vs, hf, hv => by
    unfold IsNodes at hv
    unfold FitAll at hf
    obtain ⟨v0, vs', rfl, h1, h2⟩ := hv
    have r0 := ref_tree hM hR t v0 hf.1 h1
    have rs := ref_trees hM hR ts vs' hf.2 h2
    intro i v m c hi hm hc
    cases i with
    | zero =>
      simp [evAll] at hi hm hc
      subst hi hm hc
      exact r0
    | succ i => exact rs i v m c (by simpa using hi) (by simpa [evAll] using hm) (by simpa using hc)
end
end
end Go.Proofs.YtihmgoahobbdkaaGreatDoor
namespace Go.Proofs.YtihmgoahobbdkaaGreatDoor
open Go.RowKit Go.Lib

mutual
theorem cost_size : ∀ t : Tree, cost t ≤ size t
  | .num _ _ => by simp [cost]
  | .neg _ a => by have := cost_size a; simp [cost, size]; omega
  | .bin _ _ a b => by have := cost_size a; have := cost_size b; simp [cost, size]; omega
  | .ite _ a b c => by have := cost_size a; have := cost_size b; have := cost_size c; simp [cost, size]; omega
  | .meas _ _ _ _ => by simp [cost, size]
  | .probe _ _ ts => by have := costs_size ts; simp [cost, size]; omega
theorem costs_size : ∀ ts : List Tree, (costs ts).sum ≤ sizes ts
  | [] => by simp [costs]
  | t :: ts => by have := cost_size t; have := costs_size ts; simp [costs, sizes]; omega
end
mutual
theorem cost_bare : ∀ t : Tree, cost (bare t) = cost t
  | .num _ _ => by simp [bare, cost]
  | .neg _ a => by simp [bare, cost, cost_bare a]
  | .bin _ _ a b => by simp [bare, cost, cost_bare a, cost_bare b]
  | .ite _ a b c => by simp [bare, cost, cost_bare a, cost_bare b, cost_bare c]
  | .meas _ _ _ _ => by simp [bare]
  | .probe _ _ ts => by simp [bare, cost, costs_bare ts]
theorem costs_bare : ∀ ts : List Tree, costs (bares ts) = costs ts
  | [] => by simp [bares]
  | t :: ts => by simp [bares, costs, cost_bare t, costs_bare ts]
end
/-- What is handed in, by a seed. -/
def envOf (seed : Int) : Env ByteArray := refEnv fun kind metric n => made (mixed kind metric n seed)
/-- A value and its trace, as plain tells them. -/
def valP (r : Res × ByteArray) : List Value := [.int .i64 (resE r.1), .int .i64 (resP r.1), .int .i64 (resM r.1), .string noBytes, .int .i64 (resN r.1), .string r.2]
def valsP (t : Tree) (seeds : List Int) : List Value := seeds.flatMap fun sd => valP (ev (envOf sd) t noBytes)
/-- Evaluated with what plain hands over. -/
theorem eval_outside {A : Nat → Addr} {w0 w1 w : World} {R b lo : Nat} {av : Value} {seed : Int} {t : Tree} (hx : Ctx A w0 w1 R) (hn : Nest w1 R av) (hlo : R < lo) (hf : Fit t) (hz : size t ≤ 200) (ha : Asks (some ⟨R, 0, none⟩) lo w1 b t) (hk : Keep R w1 w) (hW : WorldP w R seed noBytes av false) :
    Calls Tryz.prog 35 #[ptr b, .func (.func 36) #[ptr R] #[]] w fun e w' => Keep R w w' ∧ EvR A (SP w1 R av seed 0) (ev (envOf seed) t noBytes) w' e := by
  obtain ⟨lo2, F, hl2, hpb, hq⟩ := ha.prog
  have hpw : ProgB lo2 w b (bare t) (notes [] (mets t)) (asks (bare t)) (spansOf t) F := by
    rw [asks_bare]
    exact hpb.above hk.size fun k lo lt => hk.block k lt (by omega)
  have hcs := cost_size t
  have hev := codeF_Eval (A := A) (SF := SP w1 R av seed) (R := R) (N := w1.heap.size) (kf := 0) (lv := .func (.func 36) #[ptr R] #[]) (E := envOf seed) (s := noBytes) (u := bare t) hpw (fit_bare t hf) (SP.fuel av seed hx.lt) (fun _ _ _ h => (hx.at h.1).sents) (Nat.lt_of_lt_of_le hx.lt hk.size) (by omega) (look_outside hx hn) (fun q hm => by
    rw [asks_bare] at hm
    obtain ⟨b1, b2, e, l1, l2, o1, o2⟩ := hq q hm
    exact ⟨_, e, probe_outside o1 o2 (by omega) (by omega) hx.lt (by have := names_size.1 t hf q hm; omega)⟩) ⟨hk, hW, by rw [cost_bare]; show 0 + 1000 * (0 + cost t) ≤ _; omega⟩
  rw [ev_bare] at hev
  exact hev
end Go.Proofs.YtihmgoahobbdkaaGreatDoor
