/-
  scalerkeep.Lazy, WALKED.
-/
import Derived.Test.YtaghcjpoihkpjaaGreatDoorLzAJ
import Derived.Test.YtaghcjpoihkpjaaGreatDoorEqOJ
namespace Go.Proofs.YtaghcjpoihkpjaaGreatDoor
open Go.RowKit Go.Lib

/-- A place that is told lies within the text. -/
def OkP (r : Res) : Prop := ∀ p y, r = .held p y → p < 200
section
variable {σ : Type}
theorem onVal_okp {m : σ → Res × σ} {k : Int → σ → Res × σ} (hm : ∀ s, OkP (m s).1) (hk : ∀ n s, OkP (k n s).1) (s : σ) : OkP (onVal m k s).1 := by
  unfold onVal
  have h := hm s
  generalize m s = r at h
  obtain ⟨r, s1⟩ := r
  cases r with
  | val n => exact hk n s1
  | held p y => exact h
theorem okp_val (n : Int) : OkP (.val n) := fun _ _ e => by cases e
theorem okp_held {p : Nat} {y : Why} (h : p < 200) : OkP (.held p y) := fun _ _ e => by injection e with e; omega
mutual
theorem ev_place (E : Env σ) : ∀ t, Fit t → ∀ s, OkP (ev E t s).1
  | .num _ _, _, s => by simp only [ev]; exact okp_val _
  | .neg _ a, hf, s => by
    unfold Fit at hf
    simp only [ev]
    exact onVal_okp (ev_place E a hf) (fun n s => okp_val _) s
  | .bin k p a b, hf, s => by
    unfold Fit at hf
    simp only [ev]
    split
    · refine onVal_okp (ev_place E a hf.2.2.1) (fun x s => onVal_okp (ev_place E b hf.2.2.2) (fun y s => ?_) s) s
      dsimp only
      split
      · exact okp_held hf.2.1
      · exact okp_val _
    · exact onVal_okp (ev_place E a hf.2.2.1) (fun x s => onVal_okp (ev_place E b hf.2.2.2) (fun y s => okp_val _) s) s
  | .ite _ a b c, hf, s => by
    unfold Fit at hf
    simp only [ev]
    refine onVal_okp (ev_place E a hf.1) (fun n s => ?_) s
    split
    · exact ev_place E b hf.2.1 s
    · exact ev_place E c hf.2.2 s
  | .meas p wd m n, hf, s => by
    unfold Fit at hf
    simp only [ev]
    split
    · exact okp_held hf.1
    · rename_i l _
      generalize l wd m n s = r
      obtain ⟨r, s1⟩ := r
      cases r with
      | num n => exact okp_val _
      | nothing n => exact okp_held hf.1
      | pan n => exact okp_held hf.1
  | .probe p wd ts, hf, s => by
    unfold Fit at hf
    simp only [ev]
    refine evAll_place E ts hf.2.2.2.2.2 (fun xs s => ?_) s
    generalize E.probe wd xs s = r
    obtain ⟨r, s1⟩ := r
    cases r with
    | val n => exact okp_val _
    | fail => exact okp_held hf.1
    | pan n => exact okp_held hf.1
theorem evAll_place (E : Env σ) : ∀ ts, FitAll ts → ∀ {k : List Int → σ → Res × σ}, (∀ xs s, OkP (k xs s).1) → ∀ s, OkP (onAll (evAll E ts) k s).1
  | [], _, k, hk, s => by simp only [evAll, onAll]; exact hk [] s
  | t :: ts, hf, k, hk, s => by
    unfold FitAll at hf
    simp only [evAll, onAll]
    exact onVal_okp (ev_place E t hf.1) (fun x s => evAll_place E ts hf.2 (fun xs s => hk (x :: xs) s) s) s
end
end
theorem place_small {s : ByteArray} {t : Option Tree} {f p : Nat} (h : PRel s (t, f, p)) : 0 ≤ resP (woR t) ∧ resP (woR t) < 200 := by
  have go : ∀ r, OkP r → 0 ≤ resP r ∧ resP r < 200 := fun r hr => by
    cases r with
    | val n => exact ⟨Int.le_refl _, by simp [resP]⟩
    | held p y => have := hr p y rfl; simp [resP]; omega
  cases t with
  | none => exact go _ (okp_val 0)
  | some t =>
    obtain ⟨h0, J, d, k⟩ := h.read
    obtain ⟨hf, -⟩ := read_fits h0 d k
    simp only [woR]
    split
    · exact go _ (ev_place envP t hf ())
    · exact go _ (okp_val 0)
/-- Both are the first one, where the place is brought back. -/
theorem Further.parts {o : Nat} {a b : Option Tree} (h : Further o a b) : woV b = .agg #[.bool (woP a), .bool (woG a), .bool false, .int .i64 (resN (woR a)), .int .i64 (resE (woR a)), .int .i64 (resP (woR b)), .int .i64 (resM (woR a)), .string { data := #[] }] := by
  unfold woV
  rw [h.p, h.g, h.n, h.e, h.m]
set_option maxRecDepth 1000000 in
set_option maxHeartbeats 4000000 in
theorem law_Lazy (s : ByteArray) (hs : s.size ≤ 140737488355328) {A : Nat → Addr} {w : World} (hT : TabsR w) (hA : SentsX A w) :
    Calls Tryz.prog 3 #[.string s] w fun e w' => e = .returned (.bool true) ∧ Below w.heap.size w w' := by
  have ha := keep_alive hT hA
  have HE : Hid (TabsR w ∧ SentsX A w) := ⟨hT, hA⟩
  have z1 : ¬ 9223372036854775807 < 3 + s.size := by omega
  have z2 : ¬ 9223372036854775807 < 3 + s.size + 8 := by omega
  have z3 : ¬ 9223372036854775807 < 10 + s.size := by omega
  have z4 : ¬ 9223372036854775807 < 10 + s.size + 1 := by omega
  clear hT hA
  go_enter Tryz.func3, Tryz.ntmps3
  go_wp2_with fail
  refine ha.mono ?_
  rintro e w1 ⟨rfl, hb1⟩
  have B1 : Hid (Below w.heap.size w w1) := hb1
  have h2 := plain_What s (HE.out.1.below hb1) (HE.out.2.below hb1)
  clear ha hb1
  go_wp2_with fail
  refine h2.mono ?_
  rintro e w2 ⟨t, f, p, hP, hb2, rfl⟩
  rw [whatO_parts]
  have HP : Hid (PRel s (t, f, p)) := hP
  have B2 : Hid (Below w.heap.size w w2) := B1.out.trans (hb2.mono B1.out.size)
  have B2a : Hid (Below w.heap.size w (w2.alloc (.cells #[.bool (woP t), .bool (woG t), .bool false, .int .i64 (resN (woR t)), .int .i64 (resE (woR t)), .int .i64 (resP (woR t)), .int .i64 (resM (woR t)), .string { data := #[] }] 26))) := B2.out.alloc B2.out.size _
  have h3 := plain_What (wOne ++ s ++ wElse) (HE.out.1.below B2a.out) (HE.out.2.below B2a.out)
  unfold woV
  clear h2 hb2 hP
  go_wp2_with fail
  refine h3.mono ?_
  rintro e w3 ⟨t3, f3, p3, hP3, hb3, rfl⟩
  rw [whatO_parts]
  have HP3 : Hid (PRel (wOne ++ s ++ wElse) (t3, f3, p3)) := hP3
  have B3 : Hid (Below w.heap.size w w3) := B2a.out.trans (hb3.mono B2a.out.size)
  have R3 : Hid (w3.heap[w2.heap.size]? = some (.cells #[.bool (woP t), .bool (woG t), .bool false, .int .i64 (resN (woR t)), .int .i64 (resE (woR t)), .int .i64 (resP (woR t)), .int .i64 (resM (woR t)), .string { data := #[] }] 26 (0, 0))) := (hb3.block _ (by simp)).trans (heap_alloc_new _ _)
  have B3a : Hid (Below w.heap.size w (w3.alloc (.cells #[.bool (woP t3), .bool (woG t3), .bool false, .int .i64 (resN (woR t3)), .int .i64 (resE (woR t3)), .int .i64 (resP (woR t3)), .int .i64 (resM (woR t3)), .string { data := #[] }] 26))) := B3.out.alloc B3.out.size _
  have h4 := plain_What (wIf ++ s ++ wShut) (HE.out.1.below B3a.out) (HE.out.2.below B3a.out)
  unfold woV
  clear h3 hb3 hP3
  go_wp2_with fail
  refine h4.mono ?_
  rintro e w4 ⟨t4, f4, p4, hP4, hb4, rfl⟩
  rw [whatO_parts]
  have HP4 : Hid (PRel (wIf ++ s ++ wShut) (t4, f4, p4)) := hP4
  have B4 : Hid (Below w.heap.size w w4) := B3a.out.trans (hb4.mono B3a.out.size)
  have r3 : w4.heap[w2.heap.size]? = some (.cells #[.bool (woP t), .bool (woG t), .bool false, .int .i64 (resN (woR t)), .int .i64 (resE (woR t)), .int .i64 (resP (woR t)), .int .i64 (resM (woR t)), .string { data := #[] }] 26 (0, 0)) := (hb4.block _ (by have := heap_lt R3.out; simp; omega)).trans (heap_alloc_old R3.out)
  have r4 : w4.heap[w3.heap.size]? = some (.cells #[.bool (woP t3), .bool (woG t3), .bool false, .int .i64 (resN (woR t3)), .int .i64 (resE (woR t3)), .int .i64 (resP (woR t3)), .int .i64 (resM (woR t3)), .string { data := #[] }] 26 (0, 0)) := (hb4.block _ (by simp)).trans (heap_alloc_new _ _)
  have L23 : w2.heap.size < w3.heap.size := heap_lt R3.out
  have L34 : w3.heap.size < w4.heap.size := heap_lt r4
  have L24 : w2.heap.size < w4.heap.size := Nat.lt_trans L23 L34
  have N23 : ¬ w2.heap.size = w3.heap.size := by omega
  have N32 : ¬ w3.heap.size = w2.heap.size := by omega
  have L3 : w.heap.size ≤ w3.heap.size := B3.out.size
  clear h4 hb4 hP4 R3
  have hsm := place_small HP.out
  cases hp : woP t with
  | false =>
    have rb := r3
    rw [hp] at rb
    have ac0 := cell_of_heap (i := 0) (v := .bool false) rb rfl
    have ac1 := cell_of_heap (i := 1) (v := .bool (woG t)) rb rfl
    have ac2 := cell_of_heap (i := 2) (v := .bool false) rb rfl
    have ac3 := cell_of_heap (i := 3) (v := .int .i64 (resN (woR t))) rb rfl
    have ac4 := cell_of_heap (i := 4) (v := .int .i64 (resE (woR t))) rb rfl
    have ac5 := cell_of_heap (i := 5) (v := .int .i64 (resP (woR t))) rb rfl
    have ac6 := cell_of_heap (i := 6) (v := .int .i64 (resM (woR t))) rb rfl
    have ac7 := cell_of_heap (i := 7) (v := .string { data := #[] }) rb rfl
    have az0 := frozen_of_heap (i := 0) rb
    have az1 := frozen_of_heap (i := 1) rb
    have az2 := frozen_of_heap (i := 2) rb
    have az3 := frozen_of_heap (i := 3) rb
    have az4 := frozen_of_heap (i := 4) rb
    have az5 := frozen_of_heap (i := 5) rb
    have az6 := frozen_of_heap (i := 6) rb
    have az7 := frozen_of_heap (i := 7) rb
    clear r3 r4 rb
    unfold woV
    go_wp2
    go_ret
    exact ⟨rfl, B4.out.alloc B4.out.size _⟩
  | true =>
    have rb := r3
    rw [hp] at rb
    rcases Nat.lt_or_ge 180 s.size with hbig | hle
    · have hb : (180 : Int) < s.size := by omega
      have ac0 := cell_of_heap (i := 0) (v := .bool true) rb rfl
      have ac1 := cell_of_heap (i := 1) (v := .bool (woG t)) rb rfl
      have ac2 := cell_of_heap (i := 2) (v := .bool false) rb rfl
      have ac3 := cell_of_heap (i := 3) (v := .int .i64 (resN (woR t))) rb rfl
      have ac4 := cell_of_heap (i := 4) (v := .int .i64 (resE (woR t))) rb rfl
      have ac5 := cell_of_heap (i := 5) (v := .int .i64 (resP (woR t))) rb rfl
      have ac6 := cell_of_heap (i := 6) (v := .int .i64 (resM (woR t))) rb rfl
      have ac7 := cell_of_heap (i := 7) (v := .string { data := #[] }) rb rfl
      have az0 := frozen_of_heap (i := 0) rb
      have az1 := frozen_of_heap (i := 1) rb
      have az2 := frozen_of_heap (i := 2) rb
      have az3 := frozen_of_heap (i := 3) rb
      have az4 := frozen_of_heap (i := 4) rb
      have az5 := frozen_of_heap (i := 5) rb
      have az6 := frozen_of_heap (i := 6) rb
      have az7 := frozen_of_heap (i := 7) rb
      clear r3 r4 rb
      unfold woV
      go_wp2
      go_ret
      exact ⟨rfl, B4.out.alloc B4.out.size _⟩
    · have hb : ¬ (180 : Int) < s.size := by omega
      have hF : Further 3 t t3 ∧ Further 10 t t4 := by
        cases t with
        | none => cases hp
        | some t => exact ⟨further_then HP.out hle HP3.out, further_else HP.out hle HP4.out⟩
      obtain ⟨F3, F4⟩ := hF
      rw [F4.parts]
      rw [F3.p, F3.g, F3.n, F3.e, F3.m, hp] at r4
      rw [hp]
      have a30 := F3.at0
      have a31 := F3.at1
      have a40 := F4.at0
      have a41 := F4.at1
      clear F3 F4 r3
      generalize woG t = pr at *
      generalize resN (woR t) = n at *
      generalize resE (woR t) = en at *
      generalize resP (woR t) = pn at *
      generalize resM (woR t) = mn at *
      generalize resP (woR t3) = pb at *
      generalize resP (woR t4) = pc at *
      have heq := Tryz.outSame true pr false n en pn mn
      have hgd := Tryz.outcomeG
      have ac0 := cell_of_heap (i := 0) (v := .bool true) rb rfl
      have ac1 := cell_of_heap (i := 1) (v := .bool pr) rb rfl
      have ac2 := cell_of_heap (i := 2) (v := .bool false) rb rfl
      have ac3 := cell_of_heap (i := 3) (v := .int .i64 n) rb rfl
      have ac4 := cell_of_heap (i := 4) (v := .int .i64 en) rb rfl
      have ac5 := cell_of_heap (i := 5) (v := .int .i64 pn) rb rfl
      have ac6 := cell_of_heap (i := 6) (v := .int .i64 mn) rb rfl
      have ac7 := cell_of_heap (i := 7) (v := .string { data := #[] }) rb rfl
      have az0 := frozen_of_heap (i := 0) rb
      have az1 := frozen_of_heap (i := 1) rb
      have az2 := frozen_of_heap (i := 2) rb
      have az3 := frozen_of_heap (i := 3) rb
      have az4 := frozen_of_heap (i := 4) rb
      have az5 := frozen_of_heap (i := 5) rb
      have az6 := frozen_of_heap (i := 6) rb
      have az7 := frozen_of_heap (i := 7) rb
      have bc0 := cell_of_heap (i := 0) (v := .bool true) r4 rfl
      have bc1 := cell_of_heap (i := 1) (v := .bool pr) r4 rfl
      have bc2 := cell_of_heap (i := 2) (v := .bool false) r4 rfl
      have bc3 := cell_of_heap (i := 3) (v := .int .i64 n) r4 rfl
      have bc4 := cell_of_heap (i := 4) (v := .int .i64 en) r4 rfl
      have bc5 := cell_of_heap (i := 5) (v := .int .i64 pb) r4 rfl
      have bc6 := cell_of_heap (i := 6) (v := .int .i64 mn) r4 rfl
      have bc7 := cell_of_heap (i := 7) (v := .string { data := #[] }) r4 rfl
      have bz0 := frozen_of_heap (i := 0) r4
      have bz1 := frozen_of_heap (i := 1) r4
      have bz2 := frozen_of_heap (i := 2) r4
      have bz3 := frozen_of_heap (i := 3) r4
      have bz4 := frozen_of_heap (i := 4) r4
      have bz5 := frozen_of_heap (i := 5) r4
      have bz6 := frozen_of_heap (i := 6) r4
      have bz7 := frozen_of_heap (i := 7) r4
      clear rb r4
      by_cases h0 : en = 0
      · have e1 := a30 h0
        have e2 := a40 h0
        subst e1 e2
        clear a31 a41 a30 a40
        go_wp2
        go_ret
        exact ⟨rfl, B4.out.alloc B4.out.size _⟩
      · have e1 := a31 h0
        have e2 := a41 h0
        subst e1 e2
        clear a31 a41 a30 a40
        have q1 : (3 : Int) + pn - 3 = pn := by omega
        have q2 : (10 : Int) + pn - 10 = pn := by omega
        go_wp2
        go_ret
        exact ⟨rfl, (B4.out.setCell (p := ⟨w3.heap.size, 5, none⟩) L3 _).alloc (by simp; exact B4.out.size) _⟩
end Go.Proofs.YtaghcjpoihkpjaaGreatDoor
