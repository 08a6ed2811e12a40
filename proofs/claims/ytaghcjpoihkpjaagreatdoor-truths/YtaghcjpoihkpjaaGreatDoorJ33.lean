/-
  THE PROGRAM's Code AND A PROGRAM's Names; plain.Of of a NameError: WALKED.
-/
import Derived.Test.YtaghcjpoihkpjaaGreatDoorJ29
import Derived.Test.YtaghcjpoihkpjaaGreatDoorJ31
import Derived.Test.YtaghcjpoihkpjaaGreatDoorJ32
import Derived.Deep.RegionHeld3
namespace Go.Proofs.YtaghcjpoihkpjaaGreatDoor
open Go.RowKit Go.Lib

theorem CNode.bounded {lo : Nat} {w : World} {t : Tree} {v : Value} (h : CNode (Hi lo) w t v) : CNode (Lt w.heap.size) w t v := h.moves fun _ _ _ _ hb _ => ⟨heap_lt hb, rfl⟩
theorem W8.below_size {w w' : World} (h : W8 w.heap.size w w') : Below w.heap.size w w' := h.below
set_option maxRecDepth 1000000 in
theorem code_Write {lo : Nat} {w : World} {t : Tree} {tb : Nat} {v mv : Value} (hf : Fit t) (hs : size t ≤ 200) (hb : w.heap[tb]? = some (.cells #[v, mv] 139 (0, 0))) (hn : CNode (Hi lo) w t v) :
    Calls Tryz.prog 32 #[ptr tb] w fun e w' => ∃ vo, e = .returned vo ∧ Out8 w.heap.size w' vo (enc t) ∧ Below w.heap.size w w' := by
  have hl := enc_length t hf
  have hpc := w_all (B := w.heap.size) t hf w (.slice none 0 0) v [] hn.bounded (Out8.nil _ _) (Nat.le_refl _) (by simp; omega)
  have c0 : w.cell? ⟨tb, 0, none⟩ = some v := cell_of_heap hb rfl
  obtain ⟨ty, b, rfl⟩ := hn.form
  clear hb hn hf hl
  go_enter Tryz.func32, Tryz.ntmps32
  go_wp2_with fail
  refine hpc.mono ?_
  rintro e w1 ⟨vo, rfl, ho, hw⟩
  have Q : Hid _ := And.intro ho hw
  clear hpc ho hw
  go_wp2
  go_ret
  exact ⟨_, rfl, by simpa using Q.out.1, Q.out.2.below⟩
set_option maxRecDepth 1000000 in
theorem code_Code {lo : Nat} {w : World} {t : Tree} {pb : Nat} (hf : Fit t) (hs : size t ≤ 200) (h : CPol lo w t ⟨pb, 0, none⟩) :
    Calls Tryz.prog 17 #[ptr pb] w fun e w' => ∃ vo, e = .returned vo ∧ Out8 w.heap.size w' vo (enc t) ∧ Below w.heap.size w w' := by
  obtain ⟨pb', a', e, -, h5, tb, ty, pa, mv, rfl, -, h6, h7, -⟩ := h
  injection e with e
  subst e
  have hem := code_empty h5
  have hwr := code_Write hf hs h6 h7
  have c0 : w.cell? ⟨pb, 0, none⟩ = some (ptr tb) := cell_of_heap h5 rfl
  clear h5 h6 h7
  go_enter Tryz.func17, Tryz.ntmps17
  go_wp2_with fail
  refine hem.mono ?_
  rintro e w' ⟨rfl, hw⟩
  have hw := hw.symm
  subst hw
  clear hem
  go_wp2_with fail
  refine hwr.mono ?_
  rintro e w1 ⟨vo, rfl, ho, hw⟩
  have Q : Hid _ := And.intro ho hw
  clear hwr ho hw
  go_wp2
  go_ret
  exact ⟨_, rfl, Q.out⟩
/-- Bytes of the call's own, as the reader wants them. -/
theorem Out8.rest {B : Nat} {w : World} {v : Value} {l : List UInt8} (h : Out8 B w v l) : RestAt w.heap.size w v l := by
  have h0 := h
  rcases h.2 with ⟨rfl, h1⟩ | ⟨g, cap, cur, rfl, hbg, hg, hnc, -⟩
  · have : l = [] := List.eq_nil_of_length_eq_zero h1
    subst this
    exact ⟨none, 0, rfl, Nat.le_refl _, fun j b hj => by simp at hj⟩
  · refine ⟨some ⟨g, 0, none⟩, cap, rfl, hnc, fun j b hj => ⟨g, 0, heap_lt hg, rfl, ?_⟩⟩
    have := h0.cells (g := g) rfl j (.int .u8 b.toNat) (by simp [bytesV, hj])
    rwa [show (⟨g, 0, none⟩ : Addr).add j = ⟨g, 0 + j, none⟩ by unfold Addr.add; split <;> simp_all] at this
theorem RestAt.bytes {R : Nat} {w : World} {v : Value} {l : List UInt8} (h : RestAt R w v l) : BytesIn w v l := by
  obtain ⟨ao, cp, h1, -, h3⟩ := h
  exact ⟨ao, cp, h1, fun j b hj => by obtain ⟨C, off, -, h4, h5⟩ := h3 j b hj; exact ⟨C, off, h4, h5⟩⟩
theorem Tryz.assertN1 (v : Value) (xT : TypeId) (w : World) : (Instr.typeAssert (.iface 108 v) xT 103 true).run Tryz.prog w = .ok (.tuple #[.pointer none, .bool false]) w := by kernel_rfl
theorem Tryz.assertN2 (v : Value) (xT : TypeId) (w : World) : (Instr.typeAssert (.iface 108 v) xT 108 true).run Tryz.prog w = .ok (.tuple #[v, .bool true]) w := by kernel_rfl
/-- What an error is told as, with its name. -/
def told4 (f p : Nat) (s : ByteArray) : Value := .agg #[.int .i64 (f : Int), .int .i64 (p : Int), .int .i64 0, .string s]
set_option maxRecDepth 1000000 in
theorem of_name {b p : Nat} {s : ByteArray} (w : World) (h : w.heap[b]? = some (.cells #[.int .i64 (p : Int), .string s] 110 (0, 0))) : Calls Tryz.prog 21 #[.iface 108 (ptr b)] w fun e w' => e = .returned (told4 3 p s) ∧ Below w.heap.size w w' := by
  have c0 : w.cell? ⟨b, 0, none⟩ = some (.int .i64 (p : Int)) := cell_of_heap h rfl
  have c1 : w.cell? ⟨b, 1, none⟩ = some (.string s) := cell_of_heap h rfl
  have lb := heap_lt h
  have t1 := Tryz.assertN1
  have t2 := Tryz.assertN2
  clear h
  go_enter Tryz.func21, Tryz.ntmps21
  go_wp2_with fail
  go_region
  all_goals
    go_wp2
    refine bodyPost_ret (v := told4 3 p s) (by simp [told4, results, Tryz.results21, go_sem]) rfl ⟨rfl, ?_⟩
    exact ((Below.refl _ _).alloc (Nat.le_refl _) _).drew
set_option maxRecDepth 1000000 in
theorem of_nil4 (w : World) : Calls Tryz.prog 21 #[.nilIface] w fun e w' => e = .returned (told4 0 0 ⟨#[]⟩) ∧ Below w.heap.size w w' := by
  go_enter Tryz.func21, Tryz.ntmps21
  go_wp2
  refine bodyPost_ret (v := told4 0 0 ⟨#[]⟩) (by simp [told4, results, Tryz.results21, go_sem]) rfl ⟨rfl, ?_⟩
  exact (Below.refl _ _).alloc (Nat.le_refl _) _
end Go.Proofs.YtaghcjpoihkpjaaGreatDoor
namespace Go.Proofs.YtaghcjpoihkpjaaGreatDoor
open Go.RowKit Go.Lib

mutual
theorem fit_bare : ∀ t, Fit t → Fit (bare t)
  | .num _ _, h => by unfold Fit at h; simp only [bare]; unfold Fit; exact h
  | .neg _ a, h => by unfold Fit at h; simp only [bare]; unfold Fit; exact fit_bare a h
  | .bin k p a b, h => by unfold Fit at h; simp only [bare]; unfold Fit; exact ⟨h.1, by split <;> omega, fit_bare a h.2.2.1, fit_bare b h.2.2.2⟩
  | .ite _ a b c, h => by unfold Fit at h; simp only [bare]; unfold Fit; exact ⟨fit_bare a h.1, fit_bare b h.2.1, fit_bare c h.2.2⟩
  | .meas _ _ _ _, h => by simp only [bare]; exact h
  | .probe p w ts, h => by
    unfold Fit at h
    simp only [bare]
    unfold Fit
    exact ⟨h.1, h.2.1, h.2.2.1, h.2.2.2.1, by rw [bares_length]; exact h.2.2.2.2.1, fit_bares ts h.2.2.2.2.2⟩
theorem fit_bares : ∀ ts, FitAll ts → FitAll (bares ts)
  | [], h => by simp only [bares]; exact h
  | t :: ts, h => by unfold FitAll at h; simp only [bares]; unfold FitAll; exact ⟨fit_bare t h.1, fit_bares ts h.2⟩
theorem bares_length : ∀ ts, (bares ts).length = ts.length
  | [] => by simp [bares]
  | _ :: ts => by simp [bares, bares_length ts]
end
mutual
theorem asks_bare : ∀ t, asks (bare t) = asks t
  | .num _ _ => by simp [bare, asks]
  | .neg _ a => by simp [bare, asks, asks_bare a]
  | .bin _ _ a b => by simp [bare, asks, asks_bare a, asks_bare b]
  | .ite _ a b c => by simp [bare, asks, asks_bare a, asks_bare b, asks_bare c]
  | .meas _ _ _ _ => by simp [bare]
  | .probe _ _ ts => by simp [bare, asks, asks_bares ts]
theorem asks_bares : ∀ ts, asksAll (bares ts) = asksAll ts
  | [] => by simp [bares]
  | t :: ts => by simp [bares, asksAll, asks_bare t, asks_bares ts]
end
end Go.Proofs.YtaghcjpoihkpjaaGreatDoor
namespace Go.Proofs.YtaghcjpoihkpjaaGreatDoor
open Go.RowKit Go.Lib

theorem EvR.form {σ : Type} {A : Nat → Addr} {S : σ → World → Prop} {r : Res × σ} {w : World} {e : Ending} (h : EvR A S r w e) : ∃ n v, e = .returned (.tuple #[.int .i64 n, v]) := by
  obtain ⟨r, s⟩ := r
  cases r with
  | val n => exact ⟨n, _, h.1⟩
  | held p y => obtain ⟨b, T, x, h1, -⟩ := h; exact ⟨0, _, h1⟩
set_option maxRecDepth 1000000 in
set_option maxHeartbeats 1000000 in
theorem code_Eval {σ : Type} {A : Nat → Addr} {S : σ → World → Prop} {R N : Nat} {lv : Value} {E : Env σ} {lo b : Nat} {w : World} {u : Tree} {ms : List ByteArray} {sp : List (ByteArray × Int)} {F : ByteArray → Option Value} (h : ProgB lo w b u ms (asks u) sp F) (hf : Fit u)
    (hst : StableN N S) (hsn : ∀ s w, S s w → Sents A w) (hR : R < w.heap.size) (hRlo : R < lo) (hlook : match E.look with | none => lv = .nilFunc | some l => LookOk S R lv l)
    (hpr : ∀ q ∈ asks u, ∃ fv, F q.2 = some fv ∧ ProbeOk S R N fv (E.probe q.2)) {s : σ} (hs : S s w) :
    Calls Tryz.prog 19 #[ptr b, lv] w fun e w' => Keep R w w' ∧ EvR A S (ev E u s) w' e := by
  obtain ⟨lb, g, G, h1, ⟨⟨vv, mv, sv, av, h2, -, hvn, -, -⟩, hlb⟩, hm, hg, hG⟩ := h.blk
  have nb : b ≠ R := by have := h.lo; omega
  have nlb : lb ≠ R := by omega
  have hE : EnvOk A S R N lv E w g G := ⟨hst, hsn, hR, hst.1 _ _ hs, hm, by omega, hlook⟩
  obtain ⟨f, caps, rfl, hcf, hrun⟩ := runs_tree hE u vv hf (hvn.moves fun k hb => ⟨by omega, rfl⟩) (fun q hq => by
    obtain ⟨fv, a, c⟩ := hpr q hq
    exact ⟨fv, by rw [hG q hq]; exact a, c⟩)
  have hlv : FuncV lv := by
    cases hl : E.look with
    | none => rw [hl] at hlook; exact .inl hlook
    | some l =>
      rw [hl] at hlook
      obtain ⟨f2, x2, y2, e, -⟩ := hlook
      exact .inr ⟨_, _, _, e⟩
  have hc := hrun s w.drew (Keep.refl R w).drew (hst.stable _ _ _ hs (Below.refl _ _).drew)
  have hcf := hcf #[.agg #[lv, .map (some g)]]
  have c0 : w.cell? ⟨b, 0, none⟩ = some (ptr lb) := cell_of_heap h1 rfl
  have c1 : w.cell? ⟨b, 1, none⟩ = some (.map (some g)) := cell_of_heap h1 rfl
  have cv : w.cell? ⟨lb, 0, none⟩ = some (.func (.func f) #[] caps) := cell_of_heap h2 rfl
  have hem : Calls Tryz.prog 36 #[ptr b] w fun e w' => e = .returned (.bool false) ∧ w' = w := by
    clear h h1 h2 hc hcf hrun hE hpr hlook hG hvn hm hs hsn hst c1 cv
    go_enter Tryz.func36, Tryz.ntmps36
    go_wp2
    go_ret
    exact ⟨rfl, rfl⟩
  have HH : Hid _ := And.intro (And.intro h1 nb) (And.intro h2 nlb)
  clear h h1 h2 nb nlb hlb hrun hE hpr hlook hG hvn hm hs hsn hst
  rcases hlv with rfl | ⟨fl, xl, yl, rfl⟩
  all_goals
    go_enter Tryz.func19, Tryz.ntmps19
    go_wp2_with fail
    refine hem.mono ?_
    rintro e w' ⟨rfl, hw⟩
    have hw := hw.symm
    subst hw
    go_wp2_with fail
    go_region_held3 (fun w' => w'.cell? ⟨b, 0, none⟩ = some (ptr lb) ∧ w'.cell? ⟨b, 1, none⟩ = some (.map (some g)) ∧ w'.cell? ⟨lb, 0, none⟩ = some (.func (.func f) #[] caps)) (go_keep)
      (first
        | (refine hc.mono ?_; rintro e w1 ⟨hk, he⟩; obtain ⟨n1, v1, rfl⟩ := he.form; have HK : Hid _ := hk; have HE : Hid _ := he; have k0 : w1.cell? ⟨b, 0, none⟩ = some (ptr lb) := cell_of_heap (hk.heap (w := w.drew) HH.out.1.1 HH.out.1.2) rfl; have k1 : w1.cell? ⟨b, 1, none⟩ = some (.map (some g)) := cell_of_heap (hk.heap (w := w.drew) HH.out.1.1 HH.out.1.2) rfl; have k2 : w1.cell? ⟨lb, 0, none⟩ = some (.func (.func f) #[] caps) := cell_of_heap (hk.heap (w := w.drew) HH.out.2.1 HH.out.2.2) rfl; clear hk he))
    all_goals
      go_wp2
      go_ret2
      exact ⟨(Keep.refl R _).drew.trans HK.out, HE.out⟩
end Go.Proofs.YtaghcjpoihkpjaaGreatDoor
