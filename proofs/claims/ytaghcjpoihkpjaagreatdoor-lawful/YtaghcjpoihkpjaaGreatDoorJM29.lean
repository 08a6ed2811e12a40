/-
  THE PROGRAM's Code AND A PROGRAM's Names; plain.Of of a NameError: WALKED.
-/
import Derived.Test.YtaghcjpoihkpjaaGreatDoorJM26
import Derived.Test.YtaghcjpoihkpjaaGreatDoorJM27
import Derived.Test.YtaghcjpoihkpjaaGreatDoorJM28
import Derived.Deep.RegionHeld3
import Derived.Test.YtaghcjpoihkpjaaGreatDoorJM14
import Derived.Test.YtaghcjpoihkpjaaGreatDoorJM4
import Derived.Laws.CopyRow
import Derived.Laws.IdiomCopy
namespace Go.Proofs.YtaghcjpoihkpjaaGreatDoor
open Go.RowKit Go.Lib

theorem CNode.bounded {lo : Nat} {w : World} {t : Tree} {v : Value} (h : CNode (Hi lo) w t v) : CNode (Lt w.heap.size) w t v := h.moves fun _ _ _ _ hb _ => ⟨heap_lt hb, rfl⟩
theorem W8.below_size {w w' : World} (h : W8 w.heap.size w w') : Below w.heap.size w w' := h.below
set_option maxRecDepth 1000000 in
theorem code_Write {lo : Nat} {w : World} {t : Tree} {tb : Nat} {v mv : Value} (hf : Fit t) (hs : size t ≤ 200) (hb : w.heap[tb]? = some (.cells #[v, mv] 139 (0, 0))) (hn : CNode (Hi lo) w t v) :
    Calls Tryz.prog 32 #[ptr tb] w fun e w' => ∃ vo, e = .returned vo ∧ Out8 w.heap.size w' vo (enc t) ∧ Below w.heap.size w w' := by
  have hl := enc_length t hf
  have hpc := w_all (B := w.heap.size) t hf w (.slice none 0 0) v [] hn.bounded (Out8.nil _ _) (Nat.le_refl _) (by simp; omega)
  have c0 : w.cell? ⟨tb, 0, none⟩ = some v := cell_of_heap hb rfl
  obtain ⟨ty, b, rfl⟩ := hn.form
  clear hb hn hf hl
  go_enter Tryz.func32, Tryz.ntmps32
  go_wp2_with fail
  refine hpc.mono ?_
  rintro e w1 ⟨vo, rfl, ho, hw⟩
  have Q : Hid _ := And.intro ho hw
  clear hpc ho hw
  go_wp2
  go_ret
  exact ⟨_, rfl, by simpa using Q.out.1, Q.out.2.below⟩
set_option maxRecDepth 1000000 in
theorem code_Code {lo : Nat} {w : World} {t : Tree} {pb : Nat} (hf : Fit t) (hs : size t ≤ 200) (h : CPol lo w t ⟨pb, 0, none⟩) :
    Calls Tryz.prog 17 #[ptr pb] w fun e w' => ∃ vo, e = .returned vo ∧ Out8 w.heap.size w' vo (enc t) ∧ Below w.heap.size w w' := by
  obtain ⟨pb', a', e, -, h5, tb, ty, pa, mv, rfl, -, h6, h7, -⟩ := h
  injection e with e
  subst e
  have hem := code_empty h5
  have hwr := code_Write hf hs h6 h7
  have c0 : w.cell? ⟨pb, 0, none⟩ = some (ptr tb) := cell_of_heap h5 rfl
  clear h5 h6 h7
  go_enter Tryz.func17, Tryz.ntmps17
  go_wp2_with fail
  refine hem.mono ?_
  rintro e w' ⟨rfl, hw⟩
  have hw := hw.symm
  subst hw
  clear hem
  go_wp2_with fail
  refine hwr.mono ?_
  rintro e w1 ⟨vo, rfl, ho, hw⟩
  have Q : Hid _ := And.intro ho hw
  clear hwr ho hw
  go_wp2
  go_ret
  exact ⟨_, rfl, Q.out⟩
/-- Bytes of the call's own, as the reader wants them. -/
theorem Out8.rest {B : Nat} {w : World} {v : Value} {l : List UInt8} (h : Out8 B w v l) : RestAt w.heap.size w v l := by
  have h0 := h
  rcases h.2 with ⟨rfl, h1⟩ | ⟨g, cap, cur, rfl, hbg, hg, hnc, -⟩
  · have : l = [] := List.eq_nil_of_length_eq_zero h1
    subst this
    exact ⟨none, 0, rfl, Nat.le_refl _, fun j b hj => by simp at hj⟩
  · refine ⟨some ⟨g, 0, none⟩, cap, rfl, hnc, fun j b hj => ⟨g, 0, heap_lt hg, rfl, ?_⟩⟩
    have := h0.cells (g := g) rfl j (.int .u8 b.toNat) (by simp [bytesV, hj])
    rwa [show (⟨g, 0, none⟩ : Addr).add j = ⟨g, 0 + j, none⟩ by unfold Addr.add; split <;> simp_all] at this
theorem RestAt.bytes {R : Nat} {w : World} {v : Value} {l : List UInt8} (h : RestAt R w v l) : BytesIn w v l := by
  obtain ⟨ao, cp, h1, -, h3⟩ := h
  exact ⟨ao, cp, h1, fun j b hj => by obtain ⟨C, off, -, h4, h5⟩ := h3 j b hj; exact ⟨C, off, h4, h5⟩⟩
theorem Tryz.assertN1 (v : Value) (xT : TypeId) (w : World) : (Instr.typeAssert (.iface 108 v) xT 103 true).run Tryz.prog w = .ok (.tuple #[.pointer none, .bool false]) w := by kernel_rfl
theorem Tryz.assertN2 (v : Value) (xT : TypeId) (w : World) : (Instr.typeAssert (.iface 108 v) xT 108 true).run Tryz.prog w = .ok (.tuple #[v, .bool true]) w := by kernel_rfl
/-- What an error is told as, with its name. -/
def told4 (f p : Nat) (s : ByteArray) : Value := .agg #[.int .i64 (f : Int), .int .i64 (p : Int), .int .i64 0, .string s]
set_option maxRecDepth 1000000 in
theorem of_name {b p : Nat} {s : ByteArray} (w : World) (h : w.heap[b]? = some (.cells #[.int .i64 (p : Int), .string s] 110 (0, 0))) : Calls Tryz.prog 21 #[.iface 108 (ptr b)] w fun e w' => e = .returned (told4 3 p s) ∧ Below w.heap.size w w' := by
  have c0 : w.cell? ⟨b, 0, none⟩ = some (.int .i64 (p : Int)) := cell_of_heap h rfl
  have c1 : w.cell? ⟨b, 1, none⟩ = some (.string s) := cell_of_heap h rfl
  have lb := heap_lt h
  have t1 := Tryz.assertN1
  have t2 := Tryz.assertN2
  clear h
  go_enter Tryz.func21, Tryz.ntmps21
  go_wp2_with fail
  go_region
  all_goals
    go_wp2
    refine bodyPost_ret (v := told4 3 p s) (by simp [told4, results, Tryz.results21, go_sem]) rfl ⟨rfl, ?_⟩
    exact ((Below.refl _ _).alloc (Nat.le_refl _) _).drew
set_option maxRecDepth 1000000 in
theorem of_nil4 (w : World) : Calls Tryz.prog 21 #[.nilIface] w fun e w' => e = .returned (told4 0 0 ⟨#[]⟩) ∧ Below w.heap.size w w' := by
  go_enter Tryz.func21, Tryz.ntmps21
  go_wp2
  refine bodyPost_ret (v := told4 0 0 ⟨#[]⟩) (by simp [told4, results, Tryz.results21, go_sem]) rfl ⟨rfl, ?_⟩
  exact (Below.refl _ _).alloc (Nat.le_refl _) _
end Go.Proofs.YtaghcjpoihkpjaaGreatDoor
namespace Go.Proofs.YtaghcjpoihkpjaaGreatDoor
open Go.RowKit Go.Lib

mutual
theorem fit_bare : ∀ t, Fit t → Fit (bare t)
  | .num _ _, h => by unfold Fit at h; simp only [bare]; unfold Fit; exact h
  | .neg _ a, h => by unfold Fit at h; simp only [bare]; unfold Fit; exact fit_bare a h
  | .bin k p a b, h => by unfold Fit at h; simp only [bare]; unfold Fit; exact ⟨h.1, by split <;> omega, fit_bare a h.2.2.1, fit_bare b h.2.2.2⟩
  | .ite _ a b c, h => by unfold Fit at h; simp only [bare]; unfold Fit; exact ⟨fit_bare a h.1, fit_bare b h.2.1, fit_bare c h.2.2⟩
  | .meas _ _ _ _, h => by simp only [bare]; exact h
  | .probe p w ts, h => by
    unfold Fit at h
    simp only [bare]
    unfold Fit
    exact ⟨h.1, h.2.1, h.2.2.1, h.2.2.2.1, by rw [bares_length]; exact h.2.2.2.2.1, fit_bares ts h.2.2.2.2.2⟩
theorem fit_bares : ∀ ts, FitAll ts → FitAll (bares ts)
  | [], h => by simp only [bares]; exact h
  | t :: ts, h => by unfold FitAll at h; simp only [bares]; unfold FitAll; exact ⟨fit_bare t h.1, fit_bares ts h.2⟩
theorem bares_length : ∀ ts, (bares ts).length = ts.length
  | [] => by simp [bares]
  | _ :: ts => by simp [bares, bares_length ts]
end
mutual
theorem asks_bare : ∀ t, asks (bare t) = asks t
  | .num _ _ => by simp [bare, asks]
  | .neg _ a => by simp [bare, asks, asks_bare a]
  | .bin _ _ a b => by simp [bare, asks, asks_bare a, asks_bare b]
  | .ite _ a b c => by simp [bare, asks, asks_bare a, asks_bare b, asks_bare c]
  | .meas _ _ _ _ => by simp [bare]
  | .probe _ _ ts => by simp [bare, asks, asks_bares ts]
theorem asks_bares : ∀ ts, asksAll (bares ts) = asksAll ts
  | [] => by simp [bares]
  | t :: ts => by simp [bares, asksAll, asks_bare t, asks_bares ts]
end
end Go.Proofs.YtaghcjpoihkpjaaGreatDoor
namespace Go.Proofs.YtaghcjpoihkpjaaGreatDoor
open Go.RowKit Go.Lib

theorem EvR.form {σ : Type} {A : Nat → Addr} {S : σ → World → Prop} {r : Res × σ} {w : World} {e : Ending} (h : EvR A S r w e) : ∃ n v, e = .returned (.tuple #[.int .i64 n, v]) := by
  obtain ⟨r, s⟩ := r
  cases r with
  | val n => exact ⟨n, _, h.1⟩
  | held p y => obtain ⟨b, T, x, h1, -⟩ := h; exact ⟨0, _, h1⟩
set_option maxRecDepth 1000000 in
set_option maxHeartbeats 1000000 in
theorem code_Eval {σ : Type} {A : Nat → Addr} {S : σ → World → Prop} {R N : Nat} {lv : Value} {E : Env σ} {lo b : Nat} {w : World} {u : Tree} {ms : List ByteArray} {sp : List (ByteArray × Int)} {F : ByteArray → Option Value} (h : ProgB lo w b u ms (asks u) sp F) (hf : Fit u)
    (hst : StableN N S) (hsn : ∀ s w, S s w → Sents A w) (hR : R < w.heap.size) (hRlo : R < lo) (hlook : match E.look with | none => lv = .nilFunc | some l => LookOk S R lv l)
    (hpr : ∀ q ∈ asks u, ∃ fv, F q.2 = some fv ∧ ProbeOk S R N fv (E.probe q.2)) {s : σ} (hs : S s w) :
    Calls Tryz.prog 19 #[ptr b, lv] w fun e w' => Keep R w w' ∧ EvR A S (ev E u s) w' e := by
  obtain ⟨lb, g, G, h1, ⟨⟨vv, mv, sv, av, h2, -, hvn, -, -⟩, hlb⟩, hm, hg, hG⟩ := h.blk
  have nb : b ≠ R := by have := h.lo; omega
  have nlb : lb ≠ R := by omega
  have hE : EnvOk A S R N lv E w g G := ⟨hst, hsn, hR, hst.1 _ _ hs, hm, by omega, hlook⟩
  obtain ⟨f, caps, rfl, hcf, hrun⟩ := runs_tree hE u vv hf (hvn.moves fun k hb => ⟨by omega, rfl⟩) (fun q hq => by
    obtain ⟨fv, a, c⟩ := hpr q hq
    exact ⟨fv, by rw [hG q hq]; exact a, c⟩)
  have hlv : FuncV lv := by
    cases hl : E.look with
    | none => rw [hl] at hlook; exact .inl hlook
    | some l =>
      rw [hl] at hlook
      obtain ⟨f2, x2, y2, e, -⟩ := hlook
      exact .inr ⟨_, _, _, e⟩
  have hc := hrun s w.drew (Keep.refl R w).drew (hst.stable _ _ _ hs (Below.refl _ _).drew)
  have hcf := hcf #[.agg #[lv, .map (some g)]]
  have c0 : w.cell? ⟨b, 0, none⟩ = some (ptr lb) := cell_of_heap h1 rfl
  have c1 : w.cell? ⟨b, 1, none⟩ = some (.map (some g)) := cell_of_heap h1 rfl
  have cv : w.cell? ⟨lb, 0, none⟩ = some (.func (.func f) #[] caps) := cell_of_heap h2 rfl
  have hem : Calls Tryz.prog 36 #[ptr b] w fun e w' => e = .returned (.bool false) ∧ w' = w := by
    clear h h1 h2 hc hcf hrun hE hpr hlook hG hvn hm hs hsn hst c1 cv
    go_enter Tryz.func36, Tryz.ntmps36
    go_wp2
    go_ret
    exact ⟨rfl, rfl⟩
  have HH : Hid _ := And.intro (And.intro h1 nb) (And.intro h2 nlb)
  clear h h1 h2 nb nlb hlb hrun hE hpr hlook hG hvn hm hs hsn hst
  rcases hlv with rfl | ⟨fl, xl, yl, rfl⟩
  all_goals
    go_enter Tryz.func19, Tryz.ntmps19
    go_wp2_with fail
    refine hem.mono ?_
    rintro e w' ⟨rfl, hw⟩
    have hw := hw.symm
    subst hw
    go_wp2_with fail
    go_region_held3 (fun w' => w'.cell? ⟨b, 0, none⟩ = some (ptr lb) ∧ w'.cell? ⟨b, 1, none⟩ = some (.map (some g)) ∧ w'.cell? ⟨lb, 0, none⟩ = some (.func (.func f) #[] caps)) (go_keep)
      (first
        | (refine hc.mono ?_; rintro e w1 ⟨hk, he⟩; obtain ⟨n1, v1, rfl⟩ := he.form; have HK : Hid _ := hk; have HE : Hid _ := he; have k0 : w1.cell? ⟨b, 0, none⟩ = some (ptr lb) := cell_of_heap (hk.heap (w := w.drew) HH.out.1.1 HH.out.1.2) rfl; have k1 : w1.cell? ⟨b, 1, none⟩ = some (.map (some g)) := cell_of_heap (hk.heap (w := w.drew) HH.out.1.1 HH.out.1.2) rfl; have k2 : w1.cell? ⟨lb, 0, none⟩ = some (.func (.func f) #[] caps) := cell_of_heap (hk.heap (w := w.drew) HH.out.2.1 HH.out.2.2) rfl; clear hk he))
    all_goals
      go_wp2
      go_ret2
      exact ⟨(Keep.refl R _).drew.trans HK.out, HE.out⟩
end Go.Proofs.YtaghcjpoihkpjaaGreatDoor
namespace Go.Proofs.YtaghcjpoihkpjaaGreatDoor
open Go.RowKit Go.Lib

/-- The sentinels, each in a block of its own address. -/
structure SentsX (A : Nat → Addr) (w : World) : Prop where
  sents : Sents A w
  row : ∀ i, i < 8 → ∃ c t, w.heap[(A i).block]? = some (.cells c t (0, 0))
  ne : ∀ i j, i < 8 → j < 8 → i ≠ j → A i ≠ A j
  etype : EType w
theorem SentsX.below {A : Nat → Addr} {w w' : World} (h : SentsX A w) (hb : Below w.heap.size w w') : SentsX A w' :=
  ⟨h.sents.below hb, fun i hi => by obtain ⟨c, t, e⟩ := h.row i hi; exact ⟨c, t, (hb.block _ (heap_lt e)).trans e⟩, h.ne, h.etype.below hb⟩
theorem Tryz.assertH1 (v : Value) (xT : TypeId) (w : World) : (Instr.typeAssert (.iface 111 v) xT 103 true).run Tryz.prog w = .ok (.tuple #[.pointer none, .bool false]) w := by kernel_rfl
theorem Tryz.assertH2 (v : Value) (xT : TypeId) (w : World) : (Instr.typeAssert (.iface 111 v) xT 108 true).run Tryz.prog w = .ok (.tuple #[.pointer none, .bool false]) w := by kernel_rfl
theorem Tryz.assertH3 (v : Value) (xT : TypeId) (w : World) : (Instr.typeAssert (.iface 111 v) xT 111 true).run Tryz.prog w = .ok (.tuple #[v, .bool true]) w := by kernel_rfl
/-- What a reason is told as. -/
def toldW : Why → Nat → Value
  | .divide, p => toldH 8 p 0
  | .noData, p => toldH 9 p 0
  | .failed, p => toldH 10 p 0
  | .panic n, p => toldH 11 p n
section
variable {A : Nat → Addr} {w : World} {b p : Nat} {T : TypeId} {x : Value} {y : Why}
theorem plain_hold (hs : SentsX A w) (hh : HoldAt w b p T x) (hw : WhyAt A w y T x) : Calls Tryz.prog 37 #[ptr b] w fun e w' => e = .returned (toldW y p) ∧ Below w.heap.size w w' := by
  cases y with
  | divide =>
    obtain ⟨rfl, rfl⟩ := hw
    exact hold_divide b p (A 5) w hs.etype (cell_of_heap hh rfl) (cell_of_heap hh rfl) hs.sents.g5
  | noData =>
    obtain ⟨rfl, rfl⟩ := hw
    obtain ⟨c5, t5, h5⟩ := hs.row 5 (by decide)
    obtain ⟨c6, t6, h6⟩ := hs.row 6 (by decide)
    exact hold_noData b p (A 6) w hs.etype (cell_of_heap hh rfl) (cell_of_heap hh rfl) (A 5) hs.sents.g5 hs.sents.g6 (hs.ne 6 5 (by decide) (by decide) (by decide)) h6 h5
  | failed =>
    obtain ⟨rfl, c, rfl⟩ := hw
    exact hold_failed b p ⟨c, 0, none⟩ w hs.etype (cell_of_heap hh rfl) (cell_of_heap hh rfl)
  | panic n =>
    obtain ⟨rfl, c, rfl, ho⟩ := hw
    exact hold_panic b c p ⟨c, 0, none⟩ w hs.etype (cell_of_heap hh rfl) (cell_of_heap hh rfl) n (cell_of_heap ho rfl) rfl
set_option maxRecDepth 1000000 in
set_option maxHeartbeats 1000000 in
theorem of_hold (hs : SentsX A w) (hh : HoldAt w b p T x) (hw : WhyAt A w y T x) : Calls Tryz.prog 21 #[.iface 111 (ptr b)] w fun e w' => e = .returned (toldW y p) ∧ Below w.heap.size w w' := by
  have hx : Below w.heap.size w (w.alloc (.cells #[.int .i64 0, .int .i64 0, .int .i64 0, .string { data := #[] }] 24)) := (Below.refl _ _).alloc (Nat.le_refl _) _
  have hcl := plain_hold (hs.below hx) (((hx.block b (heap_lt hh)).trans hh : HoldAt _ b p T x)) (hw.below hx)
  obtain ⟨ce, cn, he⟩ : ∃ ce cn, toldW y p = .agg #[.int .i64 ce, .int .i64 (p : Int), .int .i64 cn, .string { data := #[] }] := by cases y <;> exact ⟨_, _, rfl⟩
  rw [he] at hcl ⊢
  have t1 := Tryz.assertH1
  have t2 := Tryz.assertH2
  have t3 := Tryz.assertH3
  have HX : Hid _ := hx
  clear hs hh hw hx he
  go_enter Tryz.func21, Tryz.ntmps21
  go_wp2_with fail
  refine hcl.mono ?_
  rintro e w1 ⟨rfl, hb1⟩
  have bn : w1.heap[w.heap.size]? = some (.cells #[.int .i64 0, .int .i64 0, .int .i64 0, .string { data := #[] }] 24 (0, 0)) := (hb1.block _ (by simp)).trans cells_new
  have c0 := cell_of_heap (i := 0) bn rfl
  have c1 := cell_of_heap (i := 1) bn rfl
  have c2 := cell_of_heap (i := 2) bn rfl
  have c3 := cell_of_heap (i := 3) bn rfl
  have z0 := frozen_of_heap (i := 0) bn
  have z1 := frozen_of_heap (i := 1) bn
  have z2 := frozen_of_heap (i := 2) bn
  have z3 := frozen_of_heap (i := 3) bn
  have HB : Hid (Below w.heap.size w w1) := HX.out.trans (hb1.mono (by simp))
  clear bn hb1 hcl HX
  go_wp2
  refine bodyPost_ret (v := .agg #[.int .i64 ce, .int .i64 (p : Int), .int .i64 cn, .string { data := #[] }]) (by simp [results, Tryz.results21, go_sem, c0, c1, c2, c3]) rfl ⟨rfl, ?_⟩
  iterate 4 (refine Below.setCell ?_ (by exact Nat.le_refl _) _)
  exact HB.out
set_option maxRecDepth 1000000 in
set_option maxHeartbeats 2000000 in
theorem code_sentinelC (h : SentsX A w) : Calls Tryz.prog 38 #[.iface 349 (.pointer (some (A 1)))] w fun e w' => e = .returned (.int .i64 4) ∧ Below w.heap.size w w' := by
  obtain ⟨ca, ta, ha⟩ := h.row 1 (by decide)
  obtain ⟨cb, tb, hb⟩ := h.row 0 (by decide)
  have hne := h.ne 1 0 (by decide) (by decide) (by decide)
  obtain ⟨⟨g0, g1, g2, g3, g4, g5, g6, g7⟩, -, -, -⟩ := h
  obtain ⟨ti, hi, hcmp⟩ := Option.map_eq_some_iff.1 Tryz.isComp
  obtain ⟨tj, hj, hjs⟩ := Option.map_eq_some_iff.1 Tryz.isSize
  have heq := fun W => run_eql_iface_ptr_same (P := Tryz.prog) W (A 1) Tryz.underlying50 Tryz.underlying349 hi hcmp hj
  have hot := fun W => run_eql_iface_ptr_other (P := Tryz.prog) W (ca := ca) (cb := cb) (ta := ta) (tb := tb) Tryz.underlying50 Tryz.underlying349 hi hcmp hj (by rw [hjs]; decide) hne
  clear hi hcmp hj hjs
  go_enter Tryz.func38, Tryz.ntmps38
  go_wp2_with fail
  obtain ⟨X, hX⟩ : ∃ X, X = w.alloc (.cells #[.nilIface, .iface 349 (.pointer (some (A 0))), .nilIface, .nilIface, .iface 349 (.pointer (some (A 1))), .iface 349 (.pointer (some (A 2))), .iface 349 (.pointer (some (A 3))), .iface 349 (.pointer (some (A 4))), .iface 349 (.pointer (some (A 5))), .iface 349 (.pointer (some (A 6))), .nilIface, .nilIface, .iface 349 (.pointer (some (A 7)))] 50) := ⟨_, rfl⟩
  rw [← hX]
  have x0 : X.cell? ⟨w.heap.size, 0, none⟩ = some .nilIface := by rw [hX]; go_simp
  have x1 : X.cell? ⟨w.heap.size, 1, none⟩ = some (.iface 349 (.pointer (some (A 0)))) := by rw [hX]; go_simp
  have x2 : X.cell? ⟨w.heap.size, 2, none⟩ = some .nilIface := by rw [hX]; go_simp
  have x3 : X.cell? ⟨w.heap.size, 3, none⟩ = some .nilIface := by rw [hX]; go_simp
  have x4 : X.cell? ⟨w.heap.size, 4, none⟩ = some (.iface 349 (.pointer (some (A 1)))) := by rw [hX]; go_simp
  have hbx : Below w.heap.size w X := by rw [hX]; exact (Below.refl _ _).alloc (Nat.le_refl _) _
  have hot := hot X ((hbx.block _ (heap_lt ha)).trans ha) ((hbx.block _ (heap_lt hb)).trans hb)
  have HX : Hid (Below w.heap.size w X) := hbx
  clear hX hbx g0 g1 g2 g3 g4 g5 g6 g7 ha hb
  refine wp_loop_rounds 5 ?_
  rw [rounds_succ]
  go_wp2_with fail
  rw [rounds_succ]
  go_wp2_with fail
  rw [rounds_succ]
  go_wp2_with fail
  rw [rounds_succ]
  go_wp2_with fail
  rw [rounds_succ]
  go_wp2
  go_ret
  exact ⟨rfl, HX.out⟩
set_option maxRecDepth 1000000 in
set_option maxHeartbeats 1000000 in
theorem of_code (h : SentsX A w) : Calls Tryz.prog 21 #[.iface 349 (.pointer (some (A 1)))] w fun e w' => e = .returned (told4 4 0 ⟨#[]⟩) ∧ Below w.heap.size w w' := by
  have t1 := Tryz.assertE1
  have t2 := Tryz.assertE2
  have t3 := Tryz.assertE3
  have hx : Below w.heap.size w (w.alloc (.cells #[.int .i64 0, .int .i64 0, .int .i64 0, .string { data := #[] }] 24)) := (Below.refl _ _).alloc (Nat.le_refl _) _
  have hse := code_sentinelC (h.below hx)
  have HX : Hid _ := hx
  clear h hx
  go_enter Tryz.func21, Tryz.ntmps21
  go_wp2_with fail
  refine hse.mono ?_
  rintro e w1 ⟨rfl, hb1⟩
  have bn : w1.heap[w.heap.size]? = some (.cells #[.int .i64 0, .int .i64 0, .int .i64 0, .string { data := #[] }] 24 (0, 0)) := (hb1.block _ (by simp)).trans cells_new
  have c0 := cell_of_heap (i := 0) bn rfl
  have c1 := cell_of_heap (i := 1) bn rfl
  have c2 := cell_of_heap (i := 2) bn rfl
  have c3 := cell_of_heap (i := 3) bn rfl
  have z0 := frozen_of_heap (i := 0) bn
  have z1 := frozen_of_heap (i := 1) bn
  have z2 := frozen_of_heap (i := 2) bn
  have z3 := frozen_of_heap (i := 3) bn
  have HB : Hid (Below w.heap.size w w1) := HX.out.trans (hb1.mono (by simp))
  clear bn hb1 hse HX
  go_wp2
  refine bodyPost_ret (v := told4 4 0 ⟨#[]⟩) (by simp [told4, results, Tryz.results21, go_sem, c0, c1, c2, c3]) rfl ⟨rfl, ?_⟩
  iterate 4 (refine Below.setCell ?_ (by exact Nat.le_refl _) _)
  exact HB.out
/-- What a value or a reason is told as. -/
def toldR : Res → Value
  | .val _ => told4 0 0 ⟨#[]⟩
  | .held p y => toldW y p
end
end Go.Proofs.YtaghcjpoihkpjaaGreatDoor
namespace Go.Proofs.YtaghcjpoihkpjaaGreatDoor
open Go.RowKit Go.Lib

/-- A list of numbers behind a slice. -/
def NumsAt (w : World) (ao : Option Addr) (L : List Int) : Prop := ∀ (j : Nat) (v : Int), L[j]? = some v → ∃ C off, ao = some ⟨C, off, none⟩ ∧ w.cell? ⟨C, off + j, none⟩ = some (.int .i64 v)
theorem NumsAt.below {w w' : World} {ao : Option Addr} {L : List Int} (h : NumsAt w ao L) (hb : Below w.heap.size w w') : NumsAt w' ao L := fun j v hv => by
  obtain ⟨C, off, rfl, hc⟩ := h j v hv
  exact ⟨C, off, rfl, cell_up hb hc⟩
theorem Tryz.sizeI64 : (Tryz.prog.info? 2).map (·.size) = some 1 := by kernel_rfl
theorem five_of (L : List Int) : ((#[.int .i64 0, .int .i64 0, .int .i64 0, .int .i64 0, .int .i64 0] : Array Value).toList.take 0 ++ (L.take 5).map (Value.int .i64) ++ (#[.int .i64 0, .int .i64 0, .int .i64 0, .int .i64 0, .int .i64 0] : Array Value).toList.drop (0 + ((L.take 5).map (Value.int .i64)).length)).toArray = #[.int .i64 (L.getD 0 0), .int .i64 (L.getD 1 0), .int .i64 (L.getD 2 0), .int .i64 (L.getD 3 0), .int .i64 (L.getD 4 0)] := by
  rcases L with _ | ⟨a, _ | ⟨b, _ | ⟨c, _ | ⟨d, _ | ⟨e, L⟩⟩⟩⟩⟩ <;> simp
/-- copy into an array of five. -/
theorem run_copy5 {W : World} {g : Nat} {T : TypeId} (hg : W.heap[g]? = some (.cells #[.int .i64 0, .int .i64 0, .int .i64 0, .int .i64 0, .int .i64 0] T (0, 0))) {ao : Option Addr} {cp : Nat} {L : List Int} (hL : NumsAt W ao L) (ty : TypeId) :
    ∃ m w2, (Builtin.copy_ #[36, 36] ty #[.slice (some ⟨g, 0, none⟩) 5 5, .slice ao L.length cp]).run Tryz.prog W = .ok (goInt m) w2 ∧ w2.heap[g]? = some (.cells #[.int .i64 (L.getD 0 0), .int .i64 (L.getD 1 0), .int .i64 (L.getD 2 0), .int .i64 (L.getD 3 0), .int .i64 (L.getD 4 0)] T (0, 0)) ∧ Keep g W w2 := by
  cases L with
  | nil => exact ⟨0, W, run_copy_none (P := Tryz.prog) W _ _ ty 2 _ _ 5 5 0 cp Tryz.underlying36 Tryz.sizeI64 (by simp), hg, ⟨rfl, rfl, rfl, Nat.le_refl _, fun _ _ _ => rfl⟩⟩
  | cons a L =>
    obtain ⟨C, off, rfl, -⟩ := hL 0 a rfl
    have hadd : ∀ j, (⟨C, off, none⟩ : Addr).add j = ⟨C, off + j, none⟩ := fun j => by unfold Addr.add; split <;> simp_all
    have hr := run_copy_row (P := Tryz.prog) W 36 36 ty 2 g 0 5 5 ⟨C, off, none⟩ (a :: L).length cp _ T (((a :: L).take 5).map (Value.int .i64)) Tryz.underlying36 Tryz.sizeI64 hg (by rw [List.length_map, List.length_take]; exact Nat.min_comm _ _) (fun j v hv => by
      rw [hadd]
      rw [List.getElem?_map, List.getElem?_take] at hv
      split at hv
      · cases hx : (a :: L)[j]? with
        | none => rw [hx] at hv; simp at hv
        | some x =>
          rw [hx] at hv
          simp at hv
          subst hv
          obtain ⟨C', off', e, hc⟩ := hL j x hx
          injection e with e
          injection e with e1 e2
          subst e1 e2
          exact hc
      · simp at hv) (by simp; omega) (by intro v hv; obtain ⟨x, -, rfl⟩ := List.mem_map.1 hv; rfl)
    rw [five_of] at hr
    exact ⟨_, _, hr, setRow_heap W g _ _ T _ hg, ⟨rfl, rfl, rfl, by simp [World.setRow], fun k _ ne => setRow_other W g k _ (fun e => ne e)⟩⟩
/-- What is told of a beginning. -/
abbrev begV (p t : Bool) (e : Int) : Value := .agg #[.bool p, .bool t, .int .i64 e, .int .i64 0, .int .i64 0, .string { data := #[] }]
abbrev limV (L : List Int) : Value := .agg #[.int .i64 (L.getD 0 0), .int .i64 (L.getD 1 0), .int .i64 (L.getD 2 0), .int .i64 (L.getD 3 0), .int .i64 (L.getD 4 0)]
set_option maxRecDepth 1000000 in
set_option maxHeartbeats 1000000 in
theorem controller_no {w : World} {b : Nat} {ao : Option Addr} {cp : Nat} {L : List Int} {count : Int} (hL : NumsAt w ao L) {a : Addr}
    (hnew : ∀ W, Below w.heap.size w W → Calls Tryz.prog 52 #[ptr b, limV L, .int .i64 count] W fun e w' => e = .returned (.tuple #[.pointer none, .iface 349 (.pointer (some a))]) ∧ Below W.heap.size W w')
    (hof : ∀ W, Below w.heap.size w W → Calls Tryz.prog 21 #[.iface 349 (.pointer (some a))] W fun e w' => e = .returned (.agg #[.int .i64 5, .int .i64 0, .int .i64 0, .string { data := #[] }]) ∧ Below W.heap.size W w') :
    Calls Tryz.prog 40 #[ptr b, .slice ao L.length cp, .int .i64 count] w fun e w' => e = .returned (.tuple #[.pointer none, begV true false 5]) ∧ Below w.heap.size w w' := by
  have hB1 : Below w.heap.size w ((w.alloc (.cells #[.bool false, .bool false, .int .i64 0, .int .i64 0, .int .i64 0, .string { data := #[] }] 68)).alloc (.cells #[.int .i64 0, .int .i64 0, .int .i64 0, .int .i64 0, .int .i64 0] 161)) := ((Below.refl _ _).alloc (Nat.le_refl _) _).alloc (by simp) _
  have hg : ((w.alloc (.cells #[.bool false, .bool false, .int .i64 0, .int .i64 0, .int .i64 0, .string { data := #[] }] 68)).alloc (.cells #[.int .i64 0, .int .i64 0, .int .i64 0, .int .i64 0, .int .i64 0] 161)).heap[w.heap.size + 1]? = some (.cells #[.int .i64 0, .int .i64 0, .int .i64 0, .int .i64 0, .int .i64 0] 161 (0, 0)) := by
    have := heap_alloc_new (w.alloc (.cells #[.bool false, .bool false, .int .i64 0, .int .i64 0, .int .i64 0, .string { data := #[] }] 68)) (.cells #[.int .i64 0, .int .i64 0, .int .i64 0, .int .i64 0, .int .i64 0] 161)
    simpa using this
  obtain ⟨m, w2, hrun, h5, hk⟩ := run_copy5 hg (hL.below hB1) (cp := cp) 3
  have a0 := cell_of_heap (i := 0) (v := .int .i64 (L.getD 0 0)) h5 rfl
  have a1 := cell_of_heap (i := 1) (v := .int .i64 (L.getD 1 0)) h5 rfl
  have a2 := cell_of_heap (i := 2) (v := .int .i64 (L.getD 2 0)) h5 rfl
  have a3 := cell_of_heap (i := 3) (v := .int .i64 (L.getD 3 0)) h5 rfl
  have a4 := cell_of_heap (i := 4) (v := .int .i64 (L.getD 4 0)) h5 rfl
  have hB2 : Below w.heap.size w w2 := ⟨hk.os.trans hB1.os, hk.tape.trans hB1.tape, hk.output.trans hB1.output, Nat.le_trans hB1.size hk.size, fun k lt => (hk.block k (Nat.lt_of_lt_of_le lt hB1.size) (by omega)).trans (hB1.block k lt)⟩
  have hres : w2.heap[w.heap.size]? = some (.cells #[.bool false, .bool false, .int .i64 0, .int .i64 0, .int .i64 0, .string { data := #[] }] 68 (0, 0)) := (hk.block _ (by simp; omega) (by omega)).trans (heap_alloc_old (heap_alloc_new _ _))
  have hnw := hnew w2 hB2
  have HB : Hid _ := And.intro hB1 (And.intro hg (And.intro hres hB2))
  clear hB1 hg hL hk h5 hB2 hnew hres
  unfold limV at hnw
  generalize L.getD 0 0 = l0 at *
  generalize L.getD 1 0 = l1 at *
  generalize L.getD 2 0 = l2 at *
  generalize L.getD 3 0 = l3 at *
  generalize L.getD 4 0 = l4 at *
  generalize L.length = n at *
  go_enter Tryz.func40, Tryz.ntmps40
  go_wp2_with fail
  refine hnw.mono ?_
  rintro e w3 ⟨rfl, hb3⟩
  have hB3 : Below w.heap.size w w3 := HB.out.2.2.2.trans (hb3.mono HB.out.2.2.2.size)
  have hr3 := (hb3.block _ (heap_lt HB.out.2.2.1)).trans HB.out.2.2.1
  have hof := hof w3 hB3
  have H3 : Hid _ := And.intro hB3 hr3
  clear hnw hb3 hB3 hr3
  go_wp2_with fail
  refine hof.mono ?_
  rintro e w4 ⟨rfl, hb4⟩
  have hr4 := (hb4.block _ (heap_lt H3.out.2)).trans H3.out.2
  have H4 : Hid (Below w.heap.size w w4) := H3.out.1.trans (hb4.mono H3.out.1.size)
  have rc0 := cell_of_heap (i := 0) (v := .bool false) hr4 rfl
  have rc1 := cell_of_heap (i := 1) (v := .bool false) hr4 rfl
  have rc2 := cell_of_heap (i := 2) (v := .int .i64 0) hr4 rfl
  have rc3 := cell_of_heap (i := 3) (v := .int .i64 0) hr4 rfl
  have rc4 := cell_of_heap (i := 4) (v := .int .i64 0) hr4 rfl
  have rc5 := cell_of_heap (i := 5) (v := .string { data := #[] }) hr4 rfl
  have rz0 := frozen_of_heap (i := 0) hr4
  have rz1 := frozen_of_heap (i := 1) hr4
  have rz2 := frozen_of_heap (i := 2) hr4
  have rz3 := frozen_of_heap (i := 3) hr4
  have rz4 := frozen_of_heap (i := 4) hr4
  have rz5 := frozen_of_heap (i := 5) hr4
  clear hof hb4 hr4
  go_wp2
  refine bodyPost_ret (v := .tuple #[.pointer none, begV true false 5]) (by simp [results, Tryz.results40, go_sem, rc0, rc1, rc2, rc3, rc4, rc5]) rfl ?_
  exact ⟨rfl, by (iterate 6 (refine Below.setCell ?_ (by exact Nat.le_refl _) _)); exact H4.out⟩
set_option maxRecDepth 1000000 in
set_option maxHeartbeats 1000000 in
theorem controller_yes {w : World} {b : Nat} {ao : Option Addr} {cp : Nat} {L : List Int} {count : Int} (hL : NumsAt w ao L) {Q : Nat → World → Prop}
    (hnew : ∀ W, Below w.heap.size w W → Calls Tryz.prog 52 #[ptr b, limV L, .int .i64 count] W fun e w' => ∃ c, e = .returned (.tuple #[ptr c, .nilIface]) ∧ Below W.heap.size W w' ∧ Q c w')
    (hof : ∀ W, Below w.heap.size w W → Calls Tryz.prog 21 #[.nilIface] W fun e w' => e = .returned (.agg #[.int .i64 0, .int .i64 0, .int .i64 0, .string { data := #[] }]) ∧ Below W.heap.size W w') :
    Calls Tryz.prog 40 #[ptr b, .slice ao L.length cp, .int .i64 count] w fun e w' => ∃ c x w3 w4, e = .returned (.tuple #[ptr x, begV true true 0]) ∧ Below w.heap.size w w' ∧ Q c w3 ∧ Below w3.heap.size w3 w4 ∧ w4.heap[w.heap.size]? = some (.cells #[.bool false, .bool false, .int .i64 0, .int .i64 0, .int .i64 0, .string { data := #[] }] 68 (0, 0)) ∧ Keep w.heap.size w4 w' ∧ w4.heap[x]? = some (.cells #[ptr c] 73 (0, 0)) := by
  have hB1 : Below w.heap.size w ((w.alloc (.cells #[.bool false, .bool false, .int .i64 0, .int .i64 0, .int .i64 0, .string { data := #[] }] 68)).alloc (.cells #[.int .i64 0, .int .i64 0, .int .i64 0, .int .i64 0, .int .i64 0] 161)) := ((Below.refl _ _).alloc (Nat.le_refl _) _).alloc (by simp) _
  have hg : ((w.alloc (.cells #[.bool false, .bool false, .int .i64 0, .int .i64 0, .int .i64 0, .string { data := #[] }] 68)).alloc (.cells #[.int .i64 0, .int .i64 0, .int .i64 0, .int .i64 0, .int .i64 0] 161)).heap[w.heap.size + 1]? = some (.cells #[.int .i64 0, .int .i64 0, .int .i64 0, .int .i64 0, .int .i64 0] 161 (0, 0)) := by
    have := heap_alloc_new (w.alloc (.cells #[.bool false, .bool false, .int .i64 0, .int .i64 0, .int .i64 0, .string { data := #[] }] 68)) (.cells #[.int .i64 0, .int .i64 0, .int .i64 0, .int .i64 0, .int .i64 0] 161)
    simpa using this
  obtain ⟨m, w2, hrun, h5, hk⟩ := run_copy5 hg (hL.below hB1) (cp := cp) 3
  have a0 := cell_of_heap (i := 0) (v := .int .i64 (L.getD 0 0)) h5 rfl
  have a1 := cell_of_heap (i := 1) (v := .int .i64 (L.getD 1 0)) h5 rfl
  have a2 := cell_of_heap (i := 2) (v := .int .i64 (L.getD 2 0)) h5 rfl
  have a3 := cell_of_heap (i := 3) (v := .int .i64 (L.getD 3 0)) h5 rfl
  have a4 := cell_of_heap (i := 4) (v := .int .i64 (L.getD 4 0)) h5 rfl
  have hB2 : Below w.heap.size w w2 := ⟨hk.os.trans hB1.os, hk.tape.trans hB1.tape, hk.output.trans hB1.output, Nat.le_trans hB1.size hk.size, fun k lt => (hk.block k (Nat.lt_of_lt_of_le lt hB1.size) (by omega)).trans (hB1.block k lt)⟩
  have hres : w2.heap[w.heap.size]? = some (.cells #[.bool false, .bool false, .int .i64 0, .int .i64 0, .int .i64 0, .string { data := #[] }] 68 (0, 0)) := (hk.block _ (by simp; omega) (by omega)).trans (heap_alloc_old (heap_alloc_new _ _))
  have hnw := hnew w2 hB2
  have HB : Hid _ := And.intro hB1 (And.intro hg (And.intro hres hB2))
  clear hB1 hg hL hk h5 hB2 hnew hres
  unfold limV at hnw
  generalize L.getD 0 0 = l0 at *
  generalize L.getD 1 0 = l1 at *
  generalize L.getD 2 0 = l2 at *
  generalize L.getD 3 0 = l3 at *
  generalize L.getD 4 0 = l4 at *
  generalize L.length = n at *
  go_enter Tryz.func40, Tryz.ntmps40
  go_wp2_with fail
  refine hnw.mono ?_
  rintro e w3 ⟨c, rfl, hb3, hq3⟩
  have hB3 : Below w.heap.size w w3 := HB.out.2.2.2.trans (hb3.mono HB.out.2.2.2.size)
  have hr3 := (hb3.block _ (heap_lt HB.out.2.2.1)).trans HB.out.2.2.1
  have hB3a : Below w.heap.size w (w3.alloc (.cells #[ptr c] 73)) := hB3.alloc hB3.size _
  have hof := hof _ hB3a
  have H3 : Hid _ := And.intro hB3 (And.intro hr3 hq3)
  clear hnw hb3 hB3 hr3 hq3 hB3a
  go_wp2_with fail
  refine hof.mono ?_
  rintro e w4 ⟨rfl, hb4⟩
  have hx4 := (hb4.block _ (by simp)).trans (heap_alloc_new w3 (.cells #[ptr c] 73))
  have hr4 := (hb4.block _ (Nat.lt_of_lt_of_le (heap_lt H3.out.2.1) (by simp))).trans (heap_alloc_old H3.out.2.1)
  have hb34 : Below w3.heap.size w3 w4 := ((Below.refl _ w3).alloc (Nat.le_refl _) _).trans (hb4.mono (by simp))
  have H4 : Hid _ := And.intro (H3.out.1.trans (hb34.mono H3.out.1.size)) (And.intro hb34 (And.intro hx4 hr4))
  have rc0 := cell_of_heap (i := 0) (v := .bool false) hr4 rfl
  have rc1 := cell_of_heap (i := 1) (v := .bool false) hr4 rfl
  have rc2 := cell_of_heap (i := 2) (v := .int .i64 0) hr4 rfl
  have rc3 := cell_of_heap (i := 3) (v := .int .i64 0) hr4 rfl
  have rc4 := cell_of_heap (i := 4) (v := .int .i64 0) hr4 rfl
  have rc5 := cell_of_heap (i := 5) (v := .string { data := #[] }) hr4 rfl
  have rz0 := frozen_of_heap (i := 0) hr4
  have rz1 := frozen_of_heap (i := 1) hr4
  have rz2 := frozen_of_heap (i := 2) hr4
  have rz3 := frozen_of_heap (i := 3) hr4
  have rz4 := frozen_of_heap (i := 4) hr4
  have rz5 := frozen_of_heap (i := 5) hr4
  clear hof hb4 hr4 hx4 hb34
  go_wp2
  refine bodyPost_ret (v := .tuple #[ptr w3.heap.size, begV true true 0]) (by simp [results, Tryz.results40, go_sem, rc0, rc1, rc2, rc3, rc4, rc5]) rfl ?_
  refine ⟨c, w3.heap.size, w3, w4, rfl, by (iterate 6 (refine Below.setCell ?_ (by exact Nat.le_refl _) _)); exact H4.out.1, H3.out.2.2, H4.out.2.1, H4.out.2.2.2, ?_, H4.out.2.2.1⟩
  iterate 6 (refine Keep.setR ?_ _ _)
  exact Keep.refl _ _
end Go.Proofs.YtaghcjpoihkpjaaGreatDoor
