/-
  EVERY FUNCTION THAT WAS LOADED WORKS ITS TREE OUT, with so many asks to spend.
-/
import Derived.Test.YtaghcjpoihkpjaaGreatDoorJM38
import Derived.Test.YtaghcjpoihkpjaaGreatDoorJM26
import Derived.Test.YtaghcjpoihkpjaaGreatDoorJM36
import Derived.Test.YtaghcjpoihkpjaaGreatDoorJM29
import Derived.Test.YtaghcjpoihkpjaaGreatDoorJM33
namespace Go.Proofs.YtaghcjpoihkpjaaGreatDoor
open Go.RowKit Go.Lib

mutual
/-- How many asks a tree can spend. -/
def cost : Tree → Nat
  | .num _ _ => 0
  | .neg _ a => cost a
  | .bin _ _ a b => cost a + cost b
  | .ite _ a b c => cost a + (cost b + cost c)
  | .meas _ _ _ _ => 1
  | .probe _ _ ts => (costs ts).sum + 1
def costs : List Tree → List Nat
  | [] => []
  | t :: ts => cost t :: costs ts
end
theorem costs_length : ∀ ts, (costs ts).length = ts.length
  | [] => by simp [costs]
  | _ :: ts => by simp [costs, costs_length ts]
section
variable {σ : Type} {A : Nat → Addr} {SF : Nat → σ → World → Prop} {R N : Nat} {lv : Value} {w0 : World} {g : Nat} {G : ByteArray → Option Value} {E : Env σ}
/-- What is handed in does what is told of it. -/
structure EnvF (A : Nat → Addr) (SF : Nat → σ → World → Prop) (R N : Nat) (lv : Value) (E : Env σ) (w0 : World) (g : Nat) (G : ByteArray → Option Value) : Prop where
  stable : Fuel N SF
  sents : ∀ k s w, SF k s w → Sents A w
  room : R < w0.heap.size
  base : N ≤ w0.heap.size
  map : MapF w0 g G
  mapR : g ≠ R
  look : match E.look with
    | none => lv = .nilFunc
    | some l => LookF SF R lv l
mutual
theorem runsF_tree (hE : EnvF A SF R N lv E w0 g G) : ∀ (t : Tree) (v : Value), Fit t → VNode (fun b => b ≠ R) w0 t v → (∀ q ∈ asks t, ∃ fv, G q.2 = some fv ∧ ProbeF SF R N fv (E.probe q.2)) → RunsF A SF (cost t) R lv (.map (some g)) v (ev E t) w0
  | .num p n, v, hf, hv, _ => by
    unfold VNode at hv
    unfold Fit at hf
    obtain ⟨b, rfl, h2, h3⟩ := hv
    simp only [cost, ev]
    exact runsF_num hE.stable (by unfold In64; omega) h3 h2
  | .neg p a, v, hf, hv, hq => by
    unfold VNode at hv
    unfold Fit at hf
    obtain ⟨b, va, rfl, h2, h3, h4⟩ := hv
    simp only [cost, ev]
    exact runsF_neg hE.stable (runsF_tree hE a va hf h4 (by simpa [asks] using hq)) h3 h2
  | .bin k p a c, v, hf, hv, hq => by
    unfold VNode at hv
    unfold Fit at hf
    obtain ⟨b1, b2, b3, va, vc, rfl, ⟨p1, p2, p3⟩, h2, h3, h4, h5, h6⟩ := hv
    have ra := runsF_tree hE a va hf.2.2.1 h5 (fun q hm => hq q (by simp [asks, hm]))
    have rc := runsF_tree hE c vc hf.2.2.2 h6 (fun q hm => hq q (by simp [asks, hm]))
    by_cases hk : k = 47
    · subst hk
      simp only [cost, ev, if_true] at h4 ⊢
      exact runsF_quotient hE.stable hE.sents hE.room ra rc h2 h3 h4 p1 p2 p3
    · simp only [cost, ev, if_neg hk] at h4 ⊢
      exact runsF_pair hE.stable hE.room (isReck_cases (hf.1.resolve_right hk)) ra rc h2 h3 h4 p1 p2 p3
  | .ite p a c d, v, hf, hv, hq => by
    unfold VNode at hv
    unfold Fit at hf
    obtain ⟨b1, b2, b3, va, vc, vd, rfl, ⟨p1, p2, p3⟩, h2, h3, h4, h5, h6, h7⟩ := hv
    have ra := runsF_tree hE a va hf.1 h5 (fun q hm => hq q (by simp [asks, hm]))
    have rc := runsF_tree hE c vc hf.2.1 h6 (fun q hm => hq q (by simp [asks, hm]))
    have rd := runsF_tree hE d vd hf.2.2 h7 (fun q hm => hq q (by simp [asks, hm]))
    simp only [cost, ev]
    exact runsF_choice hE.stable hE.room ra (rc.more hE.stable (by omega)) (rd.more hE.stable (by omega)) h2 h3 h4 p1 p2 p3
  | .meas p wd m n, v, hf, hv, _ => by
    unfold VNode at hv
    unfold Fit at hf
    obtain ⟨b1, b2, b3, b4, rfl, ⟨p1, p2, p3, p4⟩, h2, h3, h4, h5⟩ := hv
    have hl := hE.look
    cases hlk : E.look with
    | none =>
      rw [hlk] at hl
      subst hl
      simp only [cost, ev, hlk]
      exact (runsF_measure_nil hE.stable hE.sents h2 p1).more hE.stable (Nat.zero_le _)
    | some l =>
      rw [hlk] at hl
      simp only [cost, ev, hlk]
      exact runsF_measure hE.stable hE.sents hE.room hE.base hl (by unfold In64; omega) (by omega) (by omega) h2 h3 h4 h5 p1 p2 p3 p4
  | .probe p wd ts, v, hf, hv, hq => by
    unfold VNode at hv
    unfold Fit at hf
    obtain ⟨b1, b2, b3, pv, vs, rfl, ⟨p1, p2, p3⟩, h2, h3, h4, ⟨h5, h6⟩, h7⟩ := hv
    obtain ⟨fv, hG, hP⟩ := hq (p, wd) (by simp [asks])
    have hlen := VNodes.length h7
    simp only [cost, ev]
    refine runsF_probe hE.stable hE.room hE.base hP hE.map hE.mapR hG h2 h3 h4 p1 p2 p3 h5 h6 (by rw [evAll_length, hlen]) (by omega) (by rw [costs_length, hlen]) ?_
    exact runsF_trees hE ts vs hf.2.2.2.2.2 h7 (fun q hm => hq q (by simp [asks, hm]))
theorem runsF_trees (hE : EnvF A SF R N lv E w0 g G) : ∀ (ts : List Tree) (vs : List Value), FitAll ts → VNodes (fun b => b ≠ R) w0 ts vs → (∀ q ∈ asksAll ts, ∃ fv, G q.2 = some fv ∧ ProbeF SF R N fv (E.probe q.2)) → ∀ (i : Nat) (v : Value) (m : σ → Res × σ) (c : Nat), vs[i]? = some v → (evAll E ts)[i]? = some m → (costs ts)[i]? = some c → RunsF A SF c R lv (.map (some g)) v m w0
  | [], vs, _, hv, _ => by
    unfold VNodes at hv
    subst hv
    intro i v m c h
    simp at h
  | t :: ts, vs, hf, hv, hq => by
    unfold VNodes at hv
    unfold FitAll at hf
    obtain ⟨v0, vs', rfl, h1, h2⟩ := hv
    have r0 := runsF_tree hE t v0 hf.1 h1 (fun q hm => hq q (by simp [asksAll, hm]))
    have rs := runsF_trees hE ts vs' hf.2 h2 (fun q hm => hq q (by simp [asksAll, hm]))
    intro i v m c hi hm hc
    cases i with
    | zero =>
      simp [evAll] at hi hm
      simp [costs] at hc
      subst hi hm hc
      exact r0
    | succ i => exact rs i v m c (by simpa using hi) (by simpa [evAll] using hm) (by simpa [costs] using hc)
end
end
end Go.Proofs.YtaghcjpoihkpjaaGreatDoor
namespace Go.Proofs.YtaghcjpoihkpjaaGreatDoor
open Go.RowKit Go.Lib

section
variable {σ : Type} {A : Nat → Addr} {SF : Nat → σ → World → Prop} {X : Nat → Prop} {D : ByteArray → Int → Prop} {N : Nat} {lv : Value} {w0 : World} {g : Nat} {G : ByteArray → Option Value} {E : Env σ}
/-- What is handed in does what is told of it. -/
structure EnvX (A : Nat → Addr) (SF : Nat → σ → World → Prop) (X : Nat → Prop) (D : ByteArray → Int → Prop) (N : Nat) (lv : Value) (E : Env σ) (w0 : World) (g : Nat) (G : ByteArray → Option Value) : Prop where
  stable : Fuel N SF
  sents : ∀ k s w, SF k s w → Sents A w
  room : ∀ k, X k → k < w0.heap.size
  base : N ≤ w0.heap.size
  map : MapF w0 g G
  mapR : ¬ X g
  look : match E.look with
    | none => lv = .nilFunc
    | some l => LookX SF X D lv l
mutual
theorem runsX_tree (hE : EnvX A SF X D N lv E w0 g G) : ∀ (t : Tree) (v : Value), Fit t → VNode (fun b => ¬ X b) w0 t v → (∀ q ∈ spansOf t, D q.1 q.2) → (∀ q ∈ asks t, ∃ fv, G q.2 = some fv ∧ ProbeX SF X N fv (E.probe q.2)) → RunsX A SF (cost t) X lv (.map (some g)) v (ev E t) w0
  | .num p n, v, hf, hv, _, _ => by
    unfold VNode at hv
    unfold Fit at hf
    obtain ⟨b, rfl, h2, h3⟩ := hv
    simp only [cost, ev]
    exact runsX_num hE.stable (by unfold In64; omega) h3 h2
  | .neg p a, v, hf, hv, hd, hq => by
    unfold VNode at hv
    unfold Fit at hf
    obtain ⟨b, va, rfl, h2, h3, h4⟩ := hv
    simp only [cost, ev]
    exact runsX_neg hE.stable (runsX_tree hE a va hf h4 (by simpa [spansOf] using hd) (by simpa [asks] using hq)) h3 h2
  | .bin k p a c, v, hf, hv, hd, hq => by
    unfold VNode at hv
    unfold Fit at hf
    obtain ⟨b1, b2, b3, va, vc, rfl, ⟨p1, p2, p3⟩, h2, h3, h4, h5, h6⟩ := hv
    have ra := runsX_tree hE a va hf.2.2.1 h5 (fun q hm => hd q (by simp [spansOf, hm])) (fun q hm => hq q (by simp [asks, hm]))
    have rc := runsX_tree hE c vc hf.2.2.2 h6 (fun q hm => hd q (by simp [spansOf, hm])) (fun q hm => hq q (by simp [asks, hm]))
    by_cases hk : k = 47
    · subst hk
      simp only [cost, ev, if_true] at h4 ⊢
      exact runsX_quotient hE.stable hE.sents hE.room ra rc h2 h3 h4 p1 p2 p3
    · simp only [cost, ev, if_neg hk] at h4 ⊢
      exact runsX_pair hE.stable hE.room (isReck_cases (hf.1.resolve_right hk)) ra rc h2 h3 h4 p1 p2 p3
  | .ite p a c d, v, hf, hv, hd, hq => by
    unfold VNode at hv
    unfold Fit at hf
    obtain ⟨b1, b2, b3, va, vc, vd, rfl, ⟨p1, p2, p3⟩, h2, h3, h4, h5, h6, h7⟩ := hv
    have ra := runsX_tree hE a va hf.1 h5 (fun q hm => hd q (by simp [spansOf, hm])) (fun q hm => hq q (by simp [asks, hm]))
    have rc := runsX_tree hE c vc hf.2.1 h6 (fun q hm => hd q (by simp [spansOf, hm])) (fun q hm => hq q (by simp [asks, hm]))
    have rd := runsX_tree hE d vd hf.2.2 h7 (fun q hm => hd q (by simp [spansOf, hm])) (fun q hm => hq q (by simp [asks, hm]))
    simp only [cost, ev]
    exact runsX_choice hE.stable hE.room ra (rc.more hE.stable (by omega)) (rd.more hE.stable (by omega)) h2 h3 h4 p1 p2 p3
  | .meas p wd m n, v, hf, hv, hd, _ => by
    unfold VNode at hv
    unfold Fit at hf
    obtain ⟨b1, b2, b3, b4, rfl, ⟨p1, p2, p3, p4⟩, h2, h3, h4, h5⟩ := hv
    have hl := hE.look
    cases hlk : E.look with
    | none =>
      rw [hlk] at hl
      subst hl
      simp only [cost, ev, hlk]
      exact (runsX_measure_nil hE.stable hE.sents h2 p1).more hE.stable (Nat.zero_le _)
    | some l =>
      rw [hlk] at hl
      simp only [cost, ev, hlk]
      exact runsX_measure hE.stable hE.sents hE.room hE.base hl (hd (m, n) (by simp [spansOf])) (by unfold In64; omega) (by omega) (by omega) h2 h3 h4 h5 p1 p2 p3 p4
  | .probe p wd ts, v, hf, hv, hd, hq => by
    unfold VNode at hv
    unfold Fit at hf
    obtain ⟨b1, b2, b3, pv, vs, rfl, ⟨p1, p2, p3⟩, h2, h3, h4, ⟨h5, h6⟩, h7⟩ := hv
    obtain ⟨fv, hG, hP⟩ := hq (p, wd) (by simp [asks])
    have hlen := VNodes.length h7
    simp only [cost, ev]
    refine runsX_probe hE.stable hE.room hE.base hP hE.map hE.mapR hG h2 h3 h4 p1 p2 p3 h5 h6 (by rw [evAll_length, hlen]) (by omega) (by rw [costs_length, hlen]) ?_
    exact runsX_trees hE ts vs hf.2.2.2.2.2 h7 (fun q hm => hd q (by simp [spansOf, hm])) (fun q hm => hq q (by simp [asks, hm]))
theorem runsX_trees (hE : EnvX A SF X D N lv E w0 g G) : ∀ (ts : List Tree) (vs : List Value), FitAll ts → VNodes (fun b => ¬ X b) w0 ts vs → (∀ q ∈ spansAll ts, D q.1 q.2) → (∀ q ∈ asksAll ts, ∃ fv, G q.2 = some fv ∧ ProbeX SF X N fv (E.probe q.2)) → ∀ (i : Nat) (v : Value) (m : σ → Res × σ) (c : Nat), vs[i]? = some v → (evAll E ts)[i]? = some m → (costs ts)[i]? = some c → RunsX A SF c X lv (.map (some g)) v m w0
  | [], vs, _, hv, _, _ => by
    unfold VNodes at hv
    subst hv
    intro i v m c h
    simp at h
  | t :: ts, vs, hf, hv, hd, hq => by
    unfold VNodes at hv
    unfold FitAll at hf
    obtain ⟨v0, vs', rfl, h1, h2⟩ := hv
    have r0 := runsX_tree hE t v0 hf.1 h1 (fun q hm => hd q (by simp [spansAll, hm])) (fun q hm => hq q (by simp [asksAll, hm]))
    have rs := runsX_trees hE ts vs' hf.2 h2 (fun q hm => hd q (by simp [spansAll, hm])) (fun q hm => hq q (by simp [asksAll, hm]))
    intro i v m c hi hm hc
    cases i with
    | zero =>
      simp [evAll] at hi hm
      simp [costs] at hc
      subst hi hm hc
      exact r0
    | succ i => exact rs i v m c (by simpa using hi) (by simpa [evAll] using hm) (by simpa [costs] using hc)
end
end
end Go.Proofs.YtaghcjpoihkpjaaGreatDoor
namespace Go.Proofs.YtaghcjpoihkpjaaGreatDoor
open Go.RowKit Go.Lib

set_option maxRecDepth 1000000 in
set_option maxHeartbeats 1000000 in
theorem codeF_Eval {σ : Type} {A : Nat → Addr} {SF : Nat → σ → World → Prop} {R N kf : Nat} {lv : Value} {E : Env σ} {lo b : Nat} {w : World} {u : Tree} {ms : List ByteArray} {sp : List (ByteArray × Int)} {F : ByteArray → Option Value} (h : ProgB lo w b u ms (asks u) sp F) (hf : Fit u)
    (hst : Fuel N SF) (hsn : ∀ k s w, SF k s w → Sents A w) (hR : R < w.heap.size) (hRlo : R < lo) (hlook : match E.look with | none => lv = .nilFunc | some l => LookF SF R lv l)
    (hpr : ∀ q ∈ asks u, ∃ fv, F q.2 = some fv ∧ ProbeF SF R N fv (E.probe q.2)) {s : σ} (hs : SF (kf + cost u) s w) :
    Calls Tryz.prog 19 #[ptr b, lv] w fun e w' => Keep R w w' ∧ EvR A (SF kf) (ev E u s) w' e := by
  obtain ⟨lb, g, G, h1, ⟨⟨vv, mv, sv, av, h2, -, hvn, -, -⟩, hlb⟩, hm, hg, hG⟩ := h.blk
  have nb : b ≠ R := by have := h.lo; omega
  have nlb : lb ≠ R := by omega
  have hE : EnvF A SF R N lv E w g G := ⟨hst, hsn, hR, hst.base _ _ _ hs, hm, by omega, hlook⟩
  obtain ⟨f, caps, rfl, hcf, hrun⟩ := runsF_tree hE u vv hf (hvn.moves fun k hb => ⟨by omega, rfl⟩) (fun q hq => by
    obtain ⟨fv, a, c⟩ := hpr q hq
    exact ⟨fv, by rw [hG q hq]; exact a, c⟩)
  have hlv : FuncV lv := by
    cases hl : E.look with
    | none => rw [hl] at hlook; exact .inl hlook
    | some l =>
      rw [hl] at hlook
      obtain ⟨f2, x2, y2, e, -⟩ := hlook
      exact .inr ⟨_, _, _, e⟩
  have hc := hrun kf s w.drew (Keep.refl R w).drew (hst.stable _ _ _ _ hs (Below.refl _ _).drew)
  have hcf := hcf #[.agg #[lv, .map (some g)]]
  have c0 : w.cell? ⟨b, 0, none⟩ = some (ptr lb) := cell_of_heap h1 rfl
  have c1 : w.cell? ⟨b, 1, none⟩ = some (.map (some g)) := cell_of_heap h1 rfl
  have cv : w.cell? ⟨lb, 0, none⟩ = some (.func (.func f) #[] caps) := cell_of_heap h2 rfl
  have hem : Calls Tryz.prog 36 #[ptr b] w fun e w' => e = .returned (.bool false) ∧ w' = w := by
    clear h h1 h2 hc hcf hrun hE hpr hlook hG hvn hm hs hsn hst c1 cv
    go_enter Tryz.func36, Tryz.ntmps36
    go_wp2
    go_ret
    exact ⟨rfl, rfl⟩
  have HH : Hid _ := And.intro (And.intro h1 nb) (And.intro h2 nlb)
  clear h h1 h2 nb nlb hlb hrun hE hpr hlook hG hvn hm hs hsn hst
  rcases hlv with rfl | ⟨fl, xl, yl, rfl⟩
  all_goals
    go_enter Tryz.func19, Tryz.ntmps19
    go_wp2_with fail
    refine hem.mono ?_
    rintro e w' ⟨rfl, hw⟩
    have hw := hw.symm
    subst hw
    go_wp2_with fail
    go_region_held3 (fun w' => w'.cell? ⟨b, 0, none⟩ = some (ptr lb) ∧ w'.cell? ⟨b, 1, none⟩ = some (.map (some g)) ∧ w'.cell? ⟨lb, 0, none⟩ = some (.func (.func f) #[] caps)) (go_keep)
      (first
        | (refine hc.mono ?_; rintro e w1 ⟨hk, he⟩; obtain ⟨n1, v1, rfl⟩ := he.form; have HK : Hid _ := hk; have HE : Hid _ := he; have k0 : w1.cell? ⟨b, 0, none⟩ = some (ptr lb) := cell_of_heap (hk.heap (w := w.drew) HH.out.1.1 HH.out.1.2) rfl; have k1 : w1.cell? ⟨b, 1, none⟩ = some (.map (some g)) := cell_of_heap (hk.heap (w := w.drew) HH.out.1.1 HH.out.1.2) rfl; have k2 : w1.cell? ⟨lb, 0, none⟩ = some (.func (.func f) #[] caps) := cell_of_heap (hk.heap (w := w.drew) HH.out.2.1 HH.out.2.2) rfl; clear hk he))
    all_goals
      go_wp2
      go_ret2
      exact ⟨(Keep.refl R _).drew.trans HK.out, HE.out⟩
end Go.Proofs.YtaghcjpoihkpjaaGreatDoor
namespace Go.Proofs.YtaghcjpoihkpjaaGreatDoor
open Go.RowKit Go.Lib

set_option maxRecDepth 1000000 in
set_option maxHeartbeats 1000000 in
theorem codeX_Eval {σ : Type} {A : Nat → Addr} {SF : Nat → σ → World → Prop} {X : Nat → Prop} {D : ByteArray → Int → Prop} {N kf : Nat} {lv : Value} {E : Env σ} {lo b : Nat} {wl w : World} {u : Tree} {ms : List ByteArray} {sp : List (ByteArray × Int)} {F : ByteArray → Option Value} (h : ProgB lo wl b u ms (asks u) sp F) (hkl : ∀ k, lo ≤ k → k < wl.heap.size → w.heap[k]? = wl.heap[k]?) (hf : Fit u)
    (hst : Fuel N SF) (hsn : ∀ k s w, SF k s w → Sents A w) (hR : ∀ k, X k → k < w.heap.size) (hX : ∀ k, lo ≤ k → k < wl.heap.size → ¬ X k) (hlook : match E.look with | none => lv = .nilFunc | some l => LookX SF X D lv l)
    (hsp : ∀ q ∈ spansOf u, D q.1 q.2) (hpr : ∀ q ∈ asks u, ∃ fv, F q.2 = some fv ∧ ProbeX SF X N fv (E.probe q.2)) {s : σ} (hs : SF (kf + cost u) s w) :
    Calls Tryz.prog 19 #[ptr b, lv] w fun e w' => KeepX X w w' ∧ EvR A (SF kf) (ev E u s) w' e := by
  obtain ⟨lb, g, G, h1, ⟨⟨vv, mv, sv, av, h2, -, hvn, -, -⟩, hlb⟩, hm, hg, hG⟩ := h.blk
  have nb : ¬ X b := hX b h.lo (heap_lt h1)
  have nlb : ¬ X lb := hX lb hlb (heap_lt h2)
  have h1 := (hkl b h.lo (heap_lt h1)).trans h1
  have h2 := (hkl lb hlb (heap_lt h2)).trans h2
  have ng : ¬ X g := hX g hg hm.lt
  have hm := hm.block (hkl g hg hm.lt)
  have hE : EnvX A SF X D N lv E w g G := ⟨hst, hsn, hR, hst.base _ _ _ hs, hm, ng, hlook⟩
  obtain ⟨f, caps, rfl, hcf, hrun⟩ := runsX_tree hE u vv hf (hvn.moves fun k hb => ⟨hX k hb.1 hb.2, hkl k hb.1 hb.2⟩) hsp (fun q hq => by
    obtain ⟨fv, a, c⟩ := hpr q hq
    exact ⟨fv, by rw [hG q hq]; exact a, c⟩)
  have hlv : FuncV lv := by
    cases hl : E.look with
    | none => rw [hl] at hlook; exact .inl hlook
    | some l =>
      rw [hl] at hlook
      obtain ⟨f2, x2, y2, e, -⟩ := hlook
      exact .inr ⟨_, _, _, e⟩
  have hc := hrun kf s w.drew (KeepX.refl X w).drew (hst.stable _ _ _ _ hs (Below.refl _ _).drew)
  have hcf := hcf #[.agg #[lv, .map (some g)]]
  have c0 : w.cell? ⟨b, 0, none⟩ = some (ptr lb) := cell_of_heap h1 rfl
  have c1 : w.cell? ⟨b, 1, none⟩ = some (.map (some g)) := cell_of_heap h1 rfl
  have cv : w.cell? ⟨lb, 0, none⟩ = some (.func (.func f) #[] caps) := cell_of_heap h2 rfl
  have hem : Calls Tryz.prog 36 #[ptr b] w fun e w' => e = .returned (.bool false) ∧ w' = w := by
    clear h h1 h2 hc hcf hrun hE hpr hsp hlook hG hvn hm hs hsn hst c1 cv
    go_enter Tryz.func36, Tryz.ntmps36
    go_wp2
    go_ret
    exact ⟨rfl, rfl⟩
  have HH : Hid _ := And.intro (And.intro h1 nb) (And.intro h2 nlb)
  clear h h1 h2 nb nlb hlb ng hkl hX hrun hE hpr hsp hlook hG hvn hm hs hsn hst
  rcases hlv with rfl | ⟨fl, xl, yl, rfl⟩
  all_goals
    go_enter Tryz.func19, Tryz.ntmps19
    go_wp2_with fail
    refine hem.mono ?_
    rintro e w' ⟨rfl, hw⟩
    have hw := hw.symm
    subst hw
    go_wp2_with fail
    go_region_held3 (fun w' => w'.cell? ⟨b, 0, none⟩ = some (ptr lb) ∧ w'.cell? ⟨b, 1, none⟩ = some (.map (some g)) ∧ w'.cell? ⟨lb, 0, none⟩ = some (.func (.func f) #[] caps)) (go_keep)
      (first
        | (refine hc.mono ?_; rintro e w1 ⟨hk, he⟩; obtain ⟨n1, v1, rfl⟩ := he.form; have HK : Hid _ := hk; have HE : Hid _ := he; have k0 : w1.cell? ⟨b, 0, none⟩ = some (ptr lb) := cell_of_heap (hk.heap (w := w.drew) HH.out.1.1 HH.out.1.2) rfl; have k1 : w1.cell? ⟨b, 1, none⟩ = some (.map (some g)) := cell_of_heap (hk.heap (w := w.drew) HH.out.1.1 HH.out.1.2) rfl; have k2 : w1.cell? ⟨lb, 0, none⟩ = some (.func (.func f) #[] caps) := cell_of_heap (hk.heap (w := w.drew) HH.out.2.1 HH.out.2.2) rfl; clear hk he))
    all_goals
      go_wp2
      go_ret2
      exact ⟨(KeepX.refl X _).drew.trans HK.out, HE.out⟩
end Go.Proofs.YtaghcjpoihkpjaaGreatDoor
namespace Go.Proofs.YtaghcjpoihkpjaaGreatDoor
open Go.RowKit Go.Lib

section
variable {w w' : World} {m : Nat} {sp : List (ByteArray × Int)} {I : ByteArray → Nat} {st : ByteArray → Int → WSt}
theorem Win.mine_cells {w : World} {R : Nat} {wid tm : Int} {k : List (Int × Int)} {mv : Value} (h : Win.WinI w R wid tm k mv) {b : Nat} (hb : b = R ∨ mv.ownBlock = some b) : ∃ cs T, w.heap[b]? = some (.cells cs T (0, 0)) ∧ (T = 225 ∧ b = R ∨ T = 227 ∧ mv.ownBlock = some b) := by
  rcases hb with rfl | hb
  · exact ⟨_, _, h.blk, .inl ⟨rfl, rfl⟩⟩
  · rcases h.own.2 with ⟨h1, -⟩ | ⟨g, cap, cur, h1, -, h3, -⟩
    · rw [h1] at hb
      cases hb
    · rw [h1] at hb
      injection hb with hb
      have hb : g = b := hb
      subst hb
      exact ⟨_, _, h3, .inr ⟨rfl, by rw [h1]; rfl⟩⟩
theorem MapG.isMap {κ : Type} {kv : κ → Value} {w : World} {m : Nat} {F : κ → Option Value} (h : MapG kv w m F) : ∃ es clock, w.heap[m]? = some (.map es clock) := by
  obtain ⟨es, clock, h1, -⟩ := h
  exact ⟨es, clock, h1⟩
/-- A map is no window's. -/
theorem Wins.map_not (h : Wins w m sp I st) {q : ByteArray × Int} (hq : q ∈ sp) {b : Nat} {es : Array MapEntry} {clock : Nat} (hb : w.heap[b]? = some (.map es clock)) : ¬ Mine (st q.1 q.2) b := fun hm => by
  obtain ⟨cs, T, e, -⟩ := Win.mine_cells (h.win q hq) hm
  rw [hb] at e
  cases e
/-- Different windows have different blocks. -/
theorem Wins.not_both (h : Wins w m sp I st) {q r : ByteArray × Int} (hq : q ∈ sp) (hr : r ∈ sp) (hne : q ≠ r) {b : Nat} (h1 : Mine (st q.1 q.2) b) : ¬ Mine (st r.1 r.2) b := fun h2 => by
  obtain ⟨cs, T, e, h3⟩ := Win.mine_cells (h.win q hq) h1
  obtain ⟨cs', T', e', h4⟩ := Win.mine_cells (h.win r hr) h2
  rw [e] at e'
  injection e' with e'
  injection e' with _ e'
  subst e'
  have ha := h.apart q hq r hr hne
  rcases h3 with ⟨t1, b1⟩ | ⟨t1, b1⟩ <;> rcases h4 with ⟨t2, b2⟩ | ⟨t2, b2⟩
  · exact ha.1 (b1.symm.trans b2)
  · rw [t1] at t2
    exact absurd t2 (by decide)
  · rw [t1] at t2
    exact absurd t2 (by decide)
  · exact ha.2 b b1 b2
theorem win_block {R : Nat} {wid tm : Int} {k : List (Int × Int)} {mv : Value} (h : Win.WinI w R wid tm k mv) (hb : ∀ b, (b = R ∨ mv.ownBlock = some b) → w'.heap[b]? = w.heap[b]?) : Win.WinI w' R wid tm k mv :=
  ⟨(hb R (.inl rfl)).trans h.blk, owns_block2 h.own fun g hg => hb g (.inr hg), h.wid64, h.tm64, h.times, h.len⟩
/-- What is kept of all blocks of the windows keeps the windows. -/
theorem Wins.moves (h : Wins w m sp I st) (hb : ∀ b, (b = m ∨ ∃ q ∈ sp, b = I q.1 ∨ Mine (st q.1 q.2) b) → w'.heap[b]? = w.heap[b]?) : Wins w' m sp I st := by
  obtain ⟨F, hF, hF2⟩ := h.outer
  refine ⟨⟨F, hF.block (hb m (.inl rfl)), hF2⟩, fun q hq => ?_, fun q hq => win_block (h.win q hq) fun b hm => hb b (.inr ⟨q, hq, .inr hm⟩), h.good, h.apart⟩
  obtain ⟨G, hG, hG2⟩ := h.inner q hq
  exact ⟨G, hG.block (hb _ (.inr ⟨q, hq, .inl rfl⟩)), hG2⟩
/-- One window is another one now. -/
def upd (st : ByteArray → Int → WSt) (q : ByteArray × Int) (S : WSt) : ByteArray → Int → WSt := fun s n => if s = q.1 ∧ n = q.2 then S else st s n
theorem upd_same (q : ByteArray × Int) (S : WSt) : upd st q S q.1 q.2 = S := by simp [upd]
theorem upd_other {q r : ByteArray × Int} (S : WSt) (h : r ≠ q) : upd st q S r.1 r.2 = st r.1 r.2 := by
  unfold upd
  rw [if_neg (fun e => h (Prod.ext e.1 e.2))]
/-- One window was turned, in its own blocks and new ones. -/
theorem Wins.turn (h : Wins w m sp I st) {q : ByteArray × Int} (hq : q ∈ sp) (hk : KeepX (Mine (st q.1 q.2)) w w') {t : Int} {l : List (Int × Int)} {mv : Value} (hw : Win.WinI w' (st q.1 q.2).blk q.2 t l mv) (ho : mv.ownBlock = (st q.1 q.2).row.ownBlock ∨ ∃ g, mv.ownBlock = some g ∧ w.heap.size ≤ g) (hg : l.length ≤ 16 ∧ Win.Up l ∧ Win.AllLe t l) :
    Wins w' m sp I (upd st q ⟨(st q.1 q.2).blk, mv, t, l⟩) := by
  obtain ⟨F, hF, hF2⟩ := h.outer
  obtain ⟨es, cl, hes⟩ := hF.isMap
  have blkq : ∀ r : ByteArray × Int, (upd st q ⟨(st q.1 q.2).blk, mv, t, l⟩ r.1 r.2).blk = (st r.1 r.2).blk := fun r => by
    by_cases e : r = q
    · subst e; rw [upd_same]
    · rw [upd_other _ e]
  have other : ∀ r ∈ sp, r ≠ q → ∀ b, Mine (st r.1 r.2) b → w'.heap[b]? = w.heap[b]? := fun r hr hne b hb => by
    obtain ⟨cs, T, e, -⟩ := Win.mine_cells (h.win r hr) hb
    exact hk.block b (heap_lt e) (h.not_both hr hq hne hb)
  refine ⟨⟨F, hF.block (hk.block m (heap_lt hes) (h.map_not hq hes)), hF2⟩, fun r hr => ?_, fun r hr => ?_, fun r hr => ?_, fun r hr x hx hne => ?_⟩
  · obtain ⟨G, hG, hG2⟩ := h.inner r hr
    obtain ⟨es2, cl2, hes2⟩ := hG.isMap
    refine ⟨G, hG.block (hk.block _ (heap_lt hes2) (h.map_not hq hes2)), fun n => ?_⟩
    have := blkq (r.1, n)
    simp only at this
    rw [this]
    exact hG2 n
  · by_cases e : r = q
    · subst e
      rw [upd_same]
      exact hw
    · rw [upd_other _ e]
      exact win_block (h.win r hr) (other r hr e)
  · by_cases e : r = q
    · subst e
      rw [upd_same]
      exact hg
    · rw [upd_other _ e]
      exact h.good r hr
  · rw [blkq, blkq]
    have ha := h.apart r hr x hx hne
    refine ⟨ha.1, fun g h1 h2 => ?_⟩
    have lt : ∀ y ∈ sp, ∀ g, (st y.1 y.2).row.ownBlock = some g → g < w.heap.size := fun y hy g hg => by
      obtain ⟨cs, T, e, -⟩ := Win.mine_cells (h.win y hy) (.inr hg)
      exact heap_lt e
    by_cases er : r = q
    · subst er
      rw [upd_same] at h1
      rw [upd_other _ (Ne.symm hne)] at h2
      rcases ho with ho | ⟨g2, ho, hlt⟩
      · exact ha.2 g (ho.symm.trans h1) h2
      · have := lt x hx g h2
        simp only at h1
        rw [ho] at h1
        injection h1 with h1
        omega
    · rw [upd_other _ er] at h1
      by_cases ex : x = q
      · subst ex
        rw [upd_same] at h2
        rcases ho with ho | ⟨g2, ho, hlt⟩
        · exact ha.2 g h1 (ho.symm.trans h2)
        · have := lt r hr g h1
          simp only at h2
          rw [ho] at h2
          injection h2 with h2
          omega
      · rw [upd_other _ ex] at h2
        exact ha.2 g h1 h2
end
end Go.Proofs.YtaghcjpoihkpjaaGreatDoor
