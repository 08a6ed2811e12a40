/-
  EVERY FUNCTION THAT WAS LOADED WORKS ITS TREE OUT.
-/
import Derived.Test.YtaghcjpoihkpjaaGreatDoorJM25
import Derived.Test.YtaghcjpoihkpjaaGreatDoorJM23
import Derived.Test.YtaghcjpoihkpjaaGreatDoorJM11
import Derived.Test.YtaghcjpoihkpjaaGreatDoorJM24
namespace Go.Proofs.YtaghcjpoihkpjaaGreatDoor
open Go.RowKit Go.Lib

theorem isReck_cases {k : Nat} (h : isReck k = true) : k = 43 ∨ k = 45 ∨ k = 42 ∨ k = 60 ∨ k = 62 ∨ k = 61 := by
  simp [isReck] at h
  omega
section
variable {σ : Type} {A : Nat → Addr} {S : σ → World → Prop} {R N : Nat} {lv : Value} {w0 : World} {g : Nat} {G : ByteArray → Option Value} {E : Env σ}
/-- What is handed in does what is told of it. -/
structure EnvOk (A : Nat → Addr) (S : σ → World → Prop) (R N : Nat) (lv : Value) (E : Env σ) (w0 : World) (g : Nat) (G : ByteArray → Option Value) : Prop where
  stable : StableN N S
  sents : ∀ s w, S s w → Sents A w
  room : R < w0.heap.size
  base : N ≤ w0.heap.size
  map : MapF w0 g G
  mapR : g ≠ R
  look : match E.look with
    | none => lv = .nilFunc
    | some l => LookOk S R lv l
theorem VNodes.length {P : Nat → Prop} {w : World} : ∀ {ts : List Tree} {vs : List Value}, VNodes P w ts vs → vs.length = ts.length
  | [], vs, h => by unfold VNodes at h; subst h; rfl
  | t :: ts, vs, h => by
    unfold VNodes at h
    obtain ⟨v, vs', rfl, -, h2⟩ := h
    simp [VNodes.length h2]
mutual
theorem runs_tree (hE : EnvOk A S R N lv E w0 g G) : ∀ (t : Tree) (v : Value), Fit t → VNode (fun b => b ≠ R) w0 t v → (∀ q ∈ asks t, ∃ fv, G q.2 = some fv ∧ ProbeOk S R N fv (E.probe q.2)) → Runs A S R lv (.map (some g)) v (ev E t) w0
  | .num p n, v, hf, hv, _ => by
    unfold VNode at hv
    unfold Fit at hf
    obtain ⟨b, rfl, h2, h3⟩ := hv
    simp only [ev]
    exact runs_num hE.stable.stable (by unfold In64; omega) h3 h2
  | .neg p a, v, hf, hv, hq => by
    unfold VNode at hv
    unfold Fit at hf
    obtain ⟨b, va, rfl, h2, h3, h4⟩ := hv
    simp only [ev]
    exact runs_neg hE.stable.stable (runs_tree hE a va hf h4 (by simpa [asks] using hq)) h3 h2
  | .bin k p a c, v, hf, hv, hq => by
    unfold VNode at hv
    unfold Fit at hf
    obtain ⟨b1, b2, b3, va, vc, rfl, ⟨p1, p2, p3⟩, h2, h3, h4, h5, h6⟩ := hv
    have ra := runs_tree hE a va hf.2.2.1 h5 (fun q hm => hq q (by simp [asks, hm]))
    have rc := runs_tree hE c vc hf.2.2.2 h6 (fun q hm => hq q (by simp [asks, hm]))
    by_cases hk : k = 47
    · subst hk
      simp only [ev, if_true] at h4 ⊢
      exact runs_quotient hE.stable.stable hE.sents hE.room ra rc h2 h3 h4 p1 p2 p3
    · simp only [ev, if_neg hk] at h4 ⊢
      exact runs_pair hE.stable.stable hE.room (isReck_cases (hf.1.resolve_right hk)) ra rc h2 h3 h4 p1 p2 p3
  | .ite p a c d, v, hf, hv, hq => by
    unfold VNode at hv
    unfold Fit at hf
    obtain ⟨b1, b2, b3, va, vc, vd, rfl, ⟨p1, p2, p3⟩, h2, h3, h4, h5, h6, h7⟩ := hv
    have ra := runs_tree hE a va hf.1 h5 (fun q hm => hq q (by simp [asks, hm]))
    have rc := runs_tree hE c vc hf.2.1 h6 (fun q hm => hq q (by simp [asks, hm]))
    have rd := runs_tree hE d vd hf.2.2 h7 (fun q hm => hq q (by simp [asks, hm]))
    simp only [ev]
    exact runs_choice hE.stable.stable hE.room ra rc rd h2 h3 h4 p1 p2 p3
  | .meas p wd m n, v, hf, hv, _ => by
    unfold VNode at hv
    unfold Fit at hf
    obtain ⟨b1, b2, b3, b4, rfl, ⟨p1, p2, p3, p4⟩, h2, h3, h4, h5⟩ := hv
    have hl := hE.look
    cases hlk : E.look with
    | none =>
      rw [hlk] at hl
      subst hl
      simp only [ev, hlk]
      exact runs_measure_nil hE.stable.stable hE.sents h2 p1
    | some l =>
      rw [hlk] at hl
      simp only [ev, hlk]
      exact runs_measure hE.stable hE.sents hE.room hE.base hl (by unfold In64; omega) h2 h3 h4 h5 p1 p2 p3 p4
  | .probe p wd ts, v, hf, hv, hq => by
    unfold VNode at hv
    unfold Fit at hf
    obtain ⟨b1, b2, b3, pv, vs, rfl, ⟨p1, p2, p3⟩, h2, h3, h4, ⟨h5, h6⟩, h7⟩ := hv
    obtain ⟨fv, hG, hP⟩ := hq (p, wd) (by simp [asks])
    have hlen := VNodes.length h7
    simp only [ev]
    refine runs_probe hE.stable hE.room hE.base hP hE.map hE.mapR hG h2 h3 h4 p1 p2 p3 h5 h6 (by rw [evAll_length, hlen]) (by omega) ?_
    exact runs_trees hE ts vs hf.2.2.2.2.2 h7 (fun q hm => hq q (by simp [asks, hm]))
theorem runs_trees (hE : EnvOk A S R N lv E w0 g G) : ∀ (ts : List Tree) (vs : List Value), FitAll ts → VNodes (fun b => b ≠ R) w0 ts vs → (∀ q ∈ asksAll ts, ∃ fv, G q.2 = some fv ∧ ProbeOk S R N fv (E.probe q.2)) → ∀ (i : Nat) (v : Value) (m : σ → Res × σ), vs[i]? = some v → (evAll E ts)[i]? = some m → Runs A S R lv (.map (some g)) v m w0
  | [], vs, _, hv, _ => by
    unfold VNodes at hv
    subst hv
    intro i v m h
    simp at h
  | t :: ts, vs, hf, hv, hq => by
    unfold VNodes at hv
    unfold FitAll at hf
    obtain ⟨v0, vs', rfl, h1, h2⟩ := hv
    have r0 := runs_tree hE t v0 hf.1 h1 (fun q hm => hq q (by simp [asksAll, hm]))
    have rs := runs_trees hE ts vs' hf.2 h2 (fun q hm => hq q (by simp [asksAll, hm]))
    intro i v m hi hm
    cases i with
    | zero =>
      simp [evAll] at hi hm
      subst hi hm
      exact r0
    | succ i => exact rs i v m (by simpa using hi) (by simpa [evAll] using hm)
end
end
end Go.Proofs.YtaghcjpoihkpjaaGreatDoor
namespace Go.Proofs.YtaghcjpoihkpjaaGreatDoor
open Go.RowKit Go.Lib

/-- What bytes are read to. -/
def readB (l : List UInt8) : Tree × RS := RS.part 200 ⟨l, 0, false, [], [], []⟩
def okB (l : List UInt8) : Prop := (readB l).2.wrong = false ∧ (readB l).2.rest = []
instance (l : List UInt8) : Decidable (okB l) := inferInstanceAs (Decidable (_ ∧ _))
/-- The bytes of a tree that fits are code. -/
theorem readB_enc {t : Tree} (h : Fit t) (hs : size t ≤ 200) : readB (enc t) = (bare t, ⟨[], size t, false, notes [] (mets t), asks t, spansOf t⟩) := by
  have := part_enc t 200 [] 0 [] [] [] h (by omega) (by omega) (by omega)
  unfold readB
  simpa using this
/-- What was loaded, in memory from a block on. -/
structure LoadedB (lo : Nat) (w : World) (b : Nat) (t : Tree) (ms : List ByteArray) (qs : List (Nat × ByteArray)) (sp : List (ByteArray × Int)) : Prop where
  blk : ∃ vv mv sv av, w.heap[b]? = some (.cells #[vv, mv, sv, av] 95 (0, 0)) ∧ FuncV vv ∧ VNode (fun g => lo ≤ g ∧ g < w.heap.size) w t vv ∧ w.ownsRow lo 9 1 mv ms.length (ms.map Value.string) ∧ w.ownsRow lo 144 2 av qs.length (askCells qs) ∧ w.ownsRow lo 257 2 sv sp.length (spanCells sp)
  lo : lo ≤ b
theorem LoadedB.below {lo b : Nat} {w w' : World} {t : Tree} {ms : List ByteArray} {qs : List (Nat × ByteArray)} {sp : List (ByteArray × Int)} (h : LoadedB lo w b t ms qs sp) (hb : Below w.heap.size w w') : LoadedB lo w' b t ms qs sp := by
  obtain ⟨⟨vv, mv, sv, av, h1, h2, h3, h4, h5, h7⟩, h6⟩ := h
  exact ⟨⟨vv, mv, sv, av, (hb.block b (heap_lt h1)).trans h1, h2, h3.moves fun g hg => ⟨⟨hg.1, Nat.lt_of_lt_of_le hg.2 hb.size⟩, hb.block g hg.2⟩, owns_block2 h4 fun g hg => hb.block g (h4.lt _ hg).2, owns_block2 h5 fun g hg => hb.block g (h5.lt _ hg).2, owns_block2 h7 fun g hg => hb.block g (h7.lt _ hg).2⟩, h6⟩
set_option maxRecDepth 1000000 in
set_option maxHeartbeats 1000000 in
theorem rd_Read {A : Nat → Addr} {w : World} (hT : TabsR w) (hS : Sents A w) {v : Value} {l : List UInt8} (hl : RestAt w.heap.size w v l) :
    Calls Tryz.prog 29 #[v] w fun e w' => Below w.heap.size w w' ∧ ((okB l ∧ ∃ b, e = .returned (.tuple #[ptr b, .nilIface]) ∧ LoadedB w.heap.size w' b (readB l).1 (readB l).2.mets (readB l).2.asks (readB l).2.spans) ∨ (¬ okB l ∧ e = .returned (.tuple #[.pointer none, .iface 349 (.pointer (some (A 1)))]))) := by
  obtain ⟨ao, cp, rfl, hcp⟩ := hl.slice
  have hb0 : Below w.heap.size w (w.alloc (.cells #[.slice ao l.length cp, .int .i64 0, .bool false, .slice none 0 0, .slice none 0 0, .slice none 0 0] 142)) := (Below.refl _ _).alloc (Nat.le_refl _) _
  have h0 : RSt w.heap.size (w.alloc (.cells #[.slice ao l.length cp, .int .i64 0, .bool false, .slice none 0 0, .slice none 0 0, .slice none 0 0] 142)) ⟨l, 0, false, [], [], []⟩ := ⟨⟨_, _, _, _, heap_alloc_new _ _, hl.below hb0, World.ownsRow_nil _ _ _ _, World.ownsRow_nil _ _ _ _, World.ownsRow_nil _ _ _ _⟩, ⟨w, hT, Nat.le_refl _, hb0⟩⟩
  have hpc := rd_part (R := w.heap.size) 200 _ _ h0 ⟨fun _ => by simp, fun _ => by simp, by simp, by simp, by simp⟩ (.inr (by simp))
  have HB0 : Hid _ := And.intro hb0 h0
  have HS : Hid (Sents A w) := hS
  have HR : Hid (readB l = RS.part 200 ⟨l, 0, false, [], [], []⟩) := rfl
  clear hT hS hl hb0 h0
  generalize RS.part 200 ⟨l, 0, false, [], [], []⟩ = Z at *
  go_enter Tryz.func29, Tryz.ntmps29
  go_wp2_with fail
  refine hpc.mono ?_
  rintro e w1 ⟨v1, rfl, hf1, h1, k1, hv1⟩
  have hbl : Below w.heap.size w w1 := HB0.out.1.trans (HB0.out.2.below_of k1)
  have HBL : Hid (Below w.heap.size w w1) := hbl
  obtain ⟨rv, mv, sv, av, b1, b2, b3, b4, b5⟩ := h1.blk
  obtain ⟨ao1, cp1, rfl, hcp1⟩ := b2.slice
  obtain ⟨aom, cpm, rfl⟩ := owns_len b3
  obtain ⟨aoa, cpa, rfl⟩ := owns_len b4
  obtain ⟨aos, cps, rfl⟩ := owns_len b5
  have c0 : w1.cell? ⟨w.heap.size, 0, none⟩ = some (.slice ao1 Z.2.rest.length cp1) := cell_of_heap b1 rfl
  have c2 : w1.cell? ⟨w.heap.size, 2, none⟩ = some (.bool Z.2.wrong) := cell_of_heap b1 rfl
  have c3 : w1.cell? ⟨w.heap.size, 3, none⟩ = some (.slice aom Z.2.mets.length cpm) := cell_of_heap b1 rfl
  have c4 : w1.cell? ⟨w.heap.size, 4, none⟩ = some (.slice aos Z.2.spans.length cps) := cell_of_heap b1 rfl
  have c5 : w1.cell? ⟨w.heap.size, 5, none⟩ = some (.slice aoa Z.2.asks.length cpa) := cell_of_heap b1 rfl
  have g1 : w1.cell? ⟨0, 0, none⟩ = some (.iface 349 (.pointer (some (A 1)))) := (HS.out.below hbl).g1
  have HQ : Hid _ := And.intro hf1 (And.intro b3 (And.intro b4 (And.intro hv1 b5)))
  have hszR : w.heap.size < w1.heap.size := heap_lt b1
  clear hpc h1 k1 hv1 b1 b2 b3 b4 b5 hbl
  cases hw : Z.2.wrong with
  | true =>
    have HK : Hid (¬ okB l) := fun q => by have := q.1; rw [HR.out, hw] at this; cases this
    rw [hw] at c2
    clear hw
    rcases hf1 with rfl | ⟨_, _, _, rfl⟩
    all_goals
      go_wp2_with fail
      go_quiet (fail)
      go_wp2
      go_ret2
      exact ⟨⟨HBL.out.os, HBL.out.tape, HBL.out.output, HBL.out.size, HBL.out.block⟩, .inr ⟨HK.out, rfl⟩⟩
  | false =>
    rw [hw] at c2
    by_cases hr : Z.2.rest.length = 0
    · have HK : Hid (okB l) := ⟨by rw [HR.out]; exact hw, by rw [HR.out]; exact List.eq_nil_of_length_eq_zero hr⟩
      have HV : Hid (VNode (Fr w.heap.size (w.alloc (.cells #[.slice ao l.length cp, .int .i64 0, .bool false, .slice none 0 0, .slice none 0 0, .slice none 0 0] 142)).heap.size w1) w1 Z.1 v1) := HQ.out.2.2.2.1 hw
      rw [hr] at c0
      have hgt : ¬ (0 : Int) < ((0 : Nat) : Int) := by simp
      clear hw hr
      rcases hf1 with rfl | ⟨_, _, _, rfl⟩
      all_goals
        go_wp2_with fail
        go_region
        all_goals
          go_wp2
          go_ret2
          have bl : ∀ o, Below w1.heap.size w1 ((w1.alloc o).drew) := fun o => ((Below.refl _ _).alloc (Nat.le_refl _) o).drew
          refine ⟨HBL.out.trans ((bl _).mono HBL.out.size), .inl ⟨HK.out, _, rfl, ⟨⟨_, _, _, _, heap_alloc_new _ _, HQ.out.1, ?_, ?_, ?_, ?_⟩, HBL.out.size⟩⟩⟩
          · rw [HR.out]
            exact HV.out.moves fun g hg => ⟨⟨by have := hg.2; simp at this; omega, Nat.lt_of_lt_of_le hg.1.lt (bl _).size⟩, (bl _).block g hg.1.lt⟩
          · rw [HR.out]
            exact owns_block2 (owns_lower HQ.out.2.1 (by omega)) fun g hg => (bl _).block g (HQ.out.2.1.lt _ hg).2
          · rw [HR.out]
            exact owns_block2 (owns_lower HQ.out.2.2.1 (by omega)) fun g hg => (bl _).block g (HQ.out.2.2.1.lt _ hg).2
          · rw [HR.out]
            exact owns_block2 (owns_lower HQ.out.2.2.2.2 (by omega)) fun g hg => (bl _).block g (HQ.out.2.2.2.2.lt _ hg).2
    · have HK : Hid (¬ okB l) := fun q => by have := q.2; rw [HR.out] at this; rw [this] at hr; exact hr rfl
      have hgt : (0 : Int) < (Z.2.rest.length : Int) := by omega
      clear hw hr
      rcases hf1 with rfl | ⟨_, _, _, rfl⟩
      all_goals
        go_wp2_with fail
        go_quiet (fail)
        go_wp2
        go_ret2
        exact ⟨⟨HBL.out.os, HBL.out.tape, HBL.out.output, HBL.out.size, HBL.out.block⟩, .inr ⟨HK.out, rfl⟩⟩
end Go.Proofs.YtaghcjpoihkpjaaGreatDoor
namespace Go.Proofs.YtaghcjpoihkpjaaGreatDoor
open Go.RowKit Go.Lib

/-- A value that is a map of probes. -/
def ProbesIs (w : World) (pv : Value) (F : ByteArray → Option Value) : Prop := ((pv = .map none ∧ ∀ s, F s = none) ∨ ∃ m, pv = .map (some m) ∧ MapF w m F) ∧ ∀ s v, F s = some v → FuncV v
theorem ProbesIs.below {w w' : World} {pv : Value} {F : ByteArray → Option Value} (h : ProbesIs w pv F) (hb : Below w.heap.size w w') : ProbesIs w' pv F := by
  obtain ⟨h1, h2⟩ := h
  refine ⟨?_, h2⟩
  rcases h1 with h1 | ⟨m, h1, h3⟩
  · exact .inl h1
  · exact .inr ⟨m, h1, h3.block (hb.block m h3.lt)⟩
theorem ProbesIs.lookup {w : World} {pv : Value} {F : ByteArray → Option Value} (h : ProbesIs w pv F) (s : ByteArray) : (Instr.lookup 57 pv (.string s) false).run Tryz.prog w = .ok ((F s).getD .nilFunc) w := by
  rcases h.1 with ⟨rfl, h1⟩ | ⟨m, rfl, h3⟩
  · rw [h1]
    exact lookup_none w s
  · exact h3.lookup s
/-- Is there a probe of that name? -/
def thereP (F : ByteArray → Option Value) (s : ByteArray) : Prop := ∃ f x y, F s = some (.func f x y)
theorem there_or {F : ByteArray → Option Value} (h : ∀ s v, F s = some v → FuncV v) (s : ByteArray) : (∃ f x y, F s = some (.func f x y)) ∨ ((F s).getD .nilFunc = .nilFunc ∧ ¬ thereP F s) := by
  cases e : F s with
  | none => exact .inr ⟨rfl, fun ⟨_, _, _, q⟩ => by rw [e] at q; cases q⟩
  | some v =>
    rcases h s v e with rfl | ⟨f, x, y, rfl⟩
    · exact .inr ⟨rfl, fun ⟨_, _, _, q⟩ => by rw [e] at q; cases q⟩
    · exact .inl ⟨f, x, y, rfl⟩
theorem askCells_get : ∀ (l : List (Nat × ByteArray)) (i : Nat) (x : Nat × ByteArray), l[i]? = some x → (askCells l)[i * 2]? = some (.int .i64 (x.1 : Int)) ∧ (askCells l)[i * 2 + 1]? = some (.string x.2)
  | [], i, x, h => by simp at h
  | a :: l, 0, x, h => by simp at h; subst h; simp [askCells]
  | a :: l, i + 1, x, h => by
    have ih := askCells_get l i x (by simpa using h)
    have e : askCells (a :: l) = .int .i64 (a.1 : Int) :: .string a.2 :: askCells l := by simp [askCells]
    rw [e, show (i + 1) * 2 = i * 2 + 1 + 1 by omega]
    simpa using ih
theorem call_at {w : World} {base n : Nat} {ao : Option Addr} {m cp : Nat} {qs : List (Nat × ByteArray)} (h : w.ownsRow base 144 2 (.slice ao m cp) n (askCells qs)) {i : Nat} {x : Nat × ByteArray} (hi : qs[i]? = some x) : ∃ g, ao = some ⟨g, 0, none⟩ ∧ w.cell? ⟨g, i * 2, none⟩ = some (.int .i64 (x.1 : Int)) ∧ w.cell? ⟨g, i * 2 + 1, none⟩ = some (.string x.2) := by
  have q := askCells_get qs i x hi
  rcases h.2 with ⟨h1, rfl⟩ | ⟨g, cap, cur, h1, -⟩
  · have : askCells qs = [] := List.eq_nil_of_length_eq_zero (by have := h.1; omega)
    rw [this] at q
    simp at q
  · injection h1 with h1 h2 h3
    subst h1
    have ha : ∀ j, (⟨g, 0, none⟩ : Addr).add j = ⟨g, j, none⟩ := fun j => by unfold Addr.add; split <;> simp_all
    have c1 := h.cells (g := g) rfl _ _ q.1
    have c2 := h.cells (g := g) rfl _ _ q.2
    rw [ha] at c1 c2
    exact ⟨g, rfl, c1, c2⟩
/-- What is bound so far. -/
structure Bound (w wr : World) (g : Nat) (F : ByteArray → Option Value) (qs : List (Nat × ByteArray)) (i : Nat) : Prop where
  below : Below w.heap.size w wr
  map : ∃ G, MapF wr g G ∧ (∀ q ∈ qs.take i, G q.2 = F q.2) ∧ ∀ s v, G s = some v → F s = some v
  there : ∀ q ∈ qs.take i, thereP F q.2
/-- What bind tells. -/
def BindPost (w : World) (F : ByteArray → Option Value) (qs : List (Nat × ByteArray)) (e : Ending) (w' : World) : Prop := Below w.heap.size w w' ∧
      (((∀ q ∈ qs, thereP F q.2) ∧ ∃ g G, e = .returned (.tuple #[.map (some g), .nilIface]) ∧ w.heap.size ≤ g ∧ MapF w' g G ∧ ∀ q ∈ qs, G q.2 = F q.2) ∨
       (∃ i q b, qs[i]? = some q ∧ (∀ q ∈ qs.take i, thereP F q.2) ∧ ¬ thereP F q.2 ∧ e = .returned (.tuple #[.map none, .iface 108 (ptr b)]) ∧ w'.heap[b]? = some (.cells #[.int .i64 (q.1 : Int), .string q.2] 110 (0, 0))))
set_option maxRecDepth 1000000 in
set_option maxHeartbeats 1000000 in
theorem code_bind {w : World} {pv : Value} {F : ByteArray → Option Value} (hp : ProbesIs w pv F) {lo n : Nat} {av : Value} {qs : List (Nat × ByteArray)} (hn : n = qs.length) (ha : w.ownsRow lo 144 2 av n (askCells qs)) (h900 : n ≤ 900) :
    Calls Tryz.prog 30 #[av, pv] w fun e w' => BindPost w F qs e w' := by
  obtain ⟨ao, cp, rfl⟩ := owns_len ha
  have hmm := @run_makeMap Tryz.prog
  have HP : Hid (ProbesIs w pv F) := hp
  have HA : Hid (w.ownsRow lo 144 2 (.slice ao n cp) n (askCells qs)) := ha
  have HN : Hid (n = qs.length) := hn
  have heq1 : ∀ (w : World) (f : Fn) (a b : Array Value), (binOp .eql 145 (.func f a b) .nilFunc).run Tryz.prog w = .ok (.bool false) w := fun w f a b => by
    simp only [binOp]
    simp [Op.equal, Op.maxDepth, equalIn_func_nil9 w 9999 145 f a b Tryz.underlying145]
  have heq2 : ∀ (w : World), (binOp .eql 145 .nilFunc .nilFunc).run Tryz.prog w = .ok (.bool true) w := fun w => by
    simp only [binOp]
    simp [Op.equal, Op.maxDepth, equalIn_nil_nil9 w 9999 145 Tryz.underlying145]
  clear hp ha hn
  go_enter Tryz.func30, Tryz.ntmps30
  go_wp2_with fail
  go_loopw [13] (fun v13 wr => ∃ i : Nat, v13 = .int .i64 i ∧ i ≤ n ∧ Hid (Bound w wr w.heap.size F qs i)) (fun v13 _ => n - (intOf v13).toNat)
  case atStart => exact ⟨0, rfl, Nat.zero_le _, ⟨(Below.refl _ _).alloc (Nat.le_refl _) _, ⟨_, .new w, by simp, by simp⟩, by simp⟩⟩
  case round =>
    obtain ⟨i, rfl, hi, HI⟩ := hrel
    rcases Nat.lt_or_ge i n with hlt | hge
    · obtain ⟨x, hx⟩ : ∃ x, qs[i]? = some x := ⟨qs[i]'(by have := HN.out; omega), List.getElem?_eq_getElem _⟩
      obtain ⟨g, rfl, c0, c1⟩ := call_at (owns_block2 HA.out fun g hg => HI.out.below.block g (HA.out.lt _ hg).2) hx
      have hlt2 : (i : Int) < n := by omega
      have hlk := ((HP.out.below HI.out.below).below ((Below.refl _ _).alloc (Nat.le_refl _) (.cells #[.int .i64 (x.1 : Int), .string x.2] 144))).lookup x.2
      have HX : Hid (qs[i]? = some x) := hx
      clear hx
      rcases there_or HP.out.2 x.2 with ⟨f, a, b, hF⟩ | ⟨hF, hno⟩
      · rw [hF] at hlk
        have hlk : (Instr.lookup 57 pv (.string x.2) false).run Tryz.prog (wr.alloc (.cells #[.int .i64 (x.1 : Int), .string x.2] 144)) = .ok (.func f a b) _ := hlk
        have HF : Hid (F x.2 = some (.func f a b)) := hF
        obtain ⟨G, hG1, hG2, hG3⟩ := HI.out.map
        have HG : Hid _ := And.intro hG1 (And.intro hG2 hG3)
        clear hF hG1 hG2 hG3
        go_wp2_with (first
            | (at_mapUpdate; refine wpList_mapUpdate_F _ rfl _ _ _ rfl w.heap.size G x.2 (.func f a b) rfl (HG.out.1.block (Below.heap_alloc _ _ _ HG.out.1.lt)) rfl rfl ?_; intro w5 hm5 hg5; have Q5 : Hid _ := And.intro hm5 hg5; clear hm5 hg5)
            | fail)
        go_roundw
        case rel =>
          refine ⟨i + 1, by go_num, by omega, ⟨?_, ⟨_, Q5.out.1, ?_, ?_⟩, ?_⟩⟩
          · exact ⟨Q5.out.2.os.trans HI.out.below.os, Q5.out.2.tape.trans HI.out.below.tape, Q5.out.2.output.trans HI.out.below.output, Nat.le_trans HI.out.below.size (by have := Q5.out.2.size; simp at this; omega), fun k hk => (Q5.out.2.block k (by have := HI.out.below.size; simp; omega) (fun e => by injection e with e; omega)).trans ((Below.heap_alloc _ _ _ (Nat.lt_of_lt_of_le hk HI.out.below.size)).trans (HI.out.below.block k hk))⟩
          · intro q hq
            rw [List.take_add_one, HX.out] at hq
            simp at hq
            by_cases e : q.2 = x.2
            · simp only [e, if_true]; exact HF.out.symm
            · simp only [e, if_false]
              rcases hq with hq | rfl
              · exact HG.out.2.1 q hq
              · exact absurd rfl e
          · intro t v hv
            by_cases e : t = x.2
            · simp only [e, if_true] at hv; rw [e, HF.out]; exact hv
            · simp only [e, if_false] at hv; exact HG.out.2.2 t v hv
          · intro q hq
            rw [List.take_add_one, HX.out] at hq
            simp at hq
            rcases hq with hq | rfl
            · exact HI.out.there q hq
            · exact ⟨_, _, _, HF.out⟩
        case measure => simp [intOf]; omega
      · rw [hF] at hlk
        have HNO : Hid (¬ thereP F x.2) := hno
        clear hF hno
        go_wp2_with fail
        go_region
        all_goals
          go_wp2
          go_ret2
          refine ⟨?_, .inr ⟨i, x, _, HX.out, HI.out.there, HNO.out, rfl, heap_new8 (by simp)⟩⟩
          exact ((HI.out.below.alloc HI.out.below.size _).drew.alloc (by have := HI.out.below.size; simp; omega) _)
    · have hge2 : ¬ (i : Int) < n := by omega
      have HE : Hid (i = qs.length) := by show i = qs.length; have := HN.out; omega
      go_wp2
      go_ret2
      obtain ⟨G, hG1, hG2, -⟩ := HI.out.map
      have ht := HI.out.there
      rw [HE.out, List.take_length] at hG2 ht
      exact ⟨HI.out.below, .inl ⟨ht, _, G, rfl, Nat.le_refl _, hG1, hG2⟩⟩
/-- A program in memory. -/
structure ProgB (lo : Nat) (w : World) (b : Nat) (t : Tree) (ms : List ByteArray) (qs : List (Nat × ByteArray)) (sp : List (ByteArray × Int)) (F : ByteArray → Option Value) : Prop where
  blk : ∃ lb g G, w.heap[b]? = some (.cells #[ptr lb, .map (some g)] 97 (0, 0)) ∧ LoadedB lo w lb t ms qs sp ∧ MapF w g G ∧ lo ≤ g ∧ ∀ q ∈ qs, G q.2 = F q.2
  lo : lo ≤ b
set_option maxRecDepth 1000000 in
set_option maxHeartbeats 1000000 in
theorem code_Load {A : Nat → Addr} {w : World} (hT : TabsR w) (hS : Sents A w) {v : Value} {l : List UInt8} (hl : RestAt w.heap.size w v l) {pv : Value} {F : ByteArray → Option Value} (hp : ProbesIs w pv F) (hq : (readB l).2.asks.length ≤ 900) :
    Calls Tryz.prog 16 #[v, pv] w fun e w' => Below w.heap.size w w' ∧
      ((okB l ∧ (∀ q ∈ (readB l).2.asks, thereP F q.2) ∧ ∃ b, e = .returned (.tuple #[ptr b, .nilIface]) ∧ ProgB w.heap.size w' b (readB l).1 (readB l).2.mets (readB l).2.asks (readB l).2.spans F) ∨
       (okB l ∧ ∃ i q b, (readB l).2.asks[i]? = some q ∧ (∀ q ∈ (readB l).2.asks.take i, thereP F q.2) ∧ ¬ thereP F q.2 ∧ e = .returned (.tuple #[.pointer none, .iface 108 (ptr b)]) ∧ w'.heap[b]? = some (.cells #[.int .i64 (q.1 : Int), .string q.2] 110 (0, 0))) ∨
       (¬ okB l ∧ e = .returned (.tuple #[.pointer none, .iface 349 (.pointer (some (A 1)))]))) := by
  have hrd := rd_Read hT hS hl
  have HP : Hid (ProbesIs w pv F) := hp
  clear hT hS hl hp
  generalize readB l = Z at *
  go_enter Tryz.func16, Tryz.ntmps16
  go_wp2_with fail
  refine hrd.mono ?_
  rintro e w1 ⟨hb1, ha⟩
  have HB1 : Hid (Below w.heap.size w w1) := hb1
  clear hrd hb1
  rcases ha with ⟨hok, b, rfl, hL⟩ | ⟨hok, rfl⟩
  · have HL : Hid (LoadedB w.heap.size w1 b Z.1 Z.2.mets Z.2.asks Z.2.spans) := hL
    obtain ⟨vv, mv, sv, av, b1, -, -, -, b5, -⟩ := hL.blk
    have c2 : w1.cell? ⟨b, 3, none⟩ = some av := cell_of_heap b1 rfl
    have hbd := code_bind (HP.out.below HB1.out) rfl b5 hq
    obtain ⟨ao, cp, rfl⟩ := owns_len b5
    clear hL b1 b5
    go_wp2_with fail
    refine hbd.mono ?_
    rintro e w2 ⟨hb2, ha⟩
    have HB2 : Hid (Below w.heap.size w w2) := HB1.out.trans (hb2.mono HB1.out.size)
    have HL2 : Hid (LoadedB w.heap.size w2 b Z.1 Z.2.mets Z.2.asks Z.2.spans) := HL.out.below hb2
    clear hbd hb2
    rcases ha with ⟨hth, g, G, rfl, hg, hm, hG⟩ | ⟨i, q, b2, q1, q2, q3, rfl, q5⟩
    · have HQ : Hid _ := And.intro hth (And.intro hm hG)
      clear hth hm hG
      go_wp2
      go_ret2
      have bl : Below w2.heap.size w2 (w2.alloc (.cells #[ptr b, .map (some g)] 97)) := (Below.refl _ _).alloc (Nat.le_refl _) _
      exact ⟨HB2.out.trans (bl.mono HB2.out.size), .inl ⟨hok, HQ.out.1, _, rfl, ⟨⟨b, g, G, heap_alloc_new _ _, HL2.out.below bl, HQ.out.2.1.block (bl.block _ HQ.out.2.1.lt), Nat.le_trans HB1.out.size hg, HQ.out.2.2⟩, HB2.out.size⟩⟩⟩
    · have HQ : Hid _ := And.intro q1 (And.intro q2 (And.intro q3 q5))
      clear q1 q2 q3 q5
      go_wp2
      go_ret2
      exact ⟨HB2.out, .inr (.inl ⟨hok, i, q, b2, HQ.out.1, HQ.out.2.1, HQ.out.2.2.1, rfl, HQ.out.2.2.2⟩)⟩
  · go_wp2
    go_ret2
    exact ⟨HB1.out, .inr (.inr ⟨hok, rfl⟩)⟩
end Go.Proofs.YtaghcjpoihkpjaaGreatDoor
