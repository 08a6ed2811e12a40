/-
  plain.look AND plain.some WITH ITS PROBES, WALKED.
-/
import Derived.Test.YtaghcjpoihkpjaaGreatDoorJM29
import Derived.Test.YtaghcjpoihkpjaaGreatDoorJM35
import Derived.Test.YtaghcjpoihkpjaaGreatDoorJM41
import Derived.Test.YtaghcjpoihkpjaaGreatDoorJM42
namespace Go.Proofs.YtaghcjpoihkpjaaGreatDoor
open Go.RowKit Go.Lib

def wSeven : ByteArray := ⟨#[115, 101, 118, 101, 110]⟩
def wBoom : ByteArray := ⟨#[98, 111, 111, 109]⟩
def wMax : ByteArray := ⟨#[109, 97, 120]⟩
/-- The map that plain.some gives. -/
def someF : ByteArray → Option Value := fun t => if t = wMax then some (.func (.func 35) #[] #[]) else if t = wBoom then some (.func (.func 34) #[] #[]) else if t = wSeven then some (.func (.func 33) #[] #[]) else none
/-- What plain.look tells. -/
def lookP (n : Int) : Found := if n.tmod 5 ≠ 0 then .num (n.tmod 9 - 4) else .nothing (n.tmod 9 - 4)
def probeP (nm : ByteArray) (xs : List Int) : PFound := if nm = wMax then .val (xs.headD 0) else if nm = wBoom then .pan (-5) else .val 7
def envP : Env Unit := ⟨some fun _ _ n s => (lookP n, s), fun nm xs s => (probeP nm xs, s)⟩
def envN : Env Unit := ⟨none, fun nm xs s => (probeP nm xs, s)⟩
/-- Nothing that was there is turned. -/
def SB (w0 : World) : Unit → World → Prop := fun _ w => Below w0.heap.size w0 w
theorem SB.stable (w0 : World) : StableN w0.heap.size (SB w0) := ⟨fun _ _ h => h.size, fun _ _ _ h hb => h.trans hb⟩
theorem tmod_small (n k : Int) (hk : 0 < k) : -k < n.tmod k ∧ n.tmod k < k := by
  have h1 := Int.tmod_lt_of_pos n hk
  have h2 := Int.lt_tmod_of_pos n hk
  exact ⟨h2, h1⟩
set_option maxRecDepth 1000000 in
theorem look_ok (S : Unit → World → Prop) (R : Nat) : LookOk S R (.func (.func 20) #[] #[]) (fun _ _ n s => (lookP n, s)) := by
  refine ⟨_, #[], #[], rfl, fun args w => by simp, fun kind metric n s w hn hs => ?_⟩
  have h9 := tmod_small n 9 (by decide)
  have h5 := tmod_small n 5 (by decide)
  have HS : Hid (S s w) := hs
  have HN : Hid (In64 n) := hn
  have n1 := hn.1
  have n2 := hn.2
  clear hs hn
  show Calls _ _ #[.string kind, .string metric, .int .i64 n] _ _
  go_enter Tryz.func20, Tryz.ntmps20
  go_wp2
  go_ret2
  refine ⟨Keep.refl R w, ?_⟩
  show LookR S (lookP n, s) w (.returned (.tuple #[.int .i64 (n.tmod 9 - 4), .bool (n.tmod 5 != 0)]))
  unfold lookP
  by_cases h : n.tmod 5 = 0
  · rw [if_neg (by simpa using h), show (n.tmod 5 != 0) = false by simp [h]]
    exact ⟨rfl, HS.out⟩
  · rw [if_pos h, show (n.tmod 5 != 0) = true by simp [h]]
    exact ⟨rfl, by unfold In64; omega, HS.out⟩
set_option maxRecDepth 1000000 in
theorem seven_ok (S : Unit → World → Prop) (R N : Nat) : ProbeOk S R N (.func (.func 33) #[] #[]) (fun xs s => (probeP wSeven xs, s)) := by
  refine ⟨_, #[], rfl, fun args w => by simp, fun xs v s w hx hl ho hs => ?_⟩
  obtain ⟨ao, cp, rfl⟩ := owns_len ho
  have HS : Hid (S s w) := hs
  clear hs ho
  show Calls _ _ #[.slice ao xs.length cp] _ _
  go_enter Tryz.func33, Tryz.ntmps33
  go_wp2
  go_ret2
  exact ⟨KeepX.of_below (Below.refl _ _), rfl, by unfold In64; omega, HS.out⟩
set_option maxRecDepth 1000000 in
theorem boom_ok (S : Unit → World → Prop) (R N : Nat) : ProbeOk S R N (.func (.func 34) #[] #[]) (fun xs s => (probeP wBoom xs, s)) := by
  refine ⟨_, #[], rfl, fun args w => by simp, fun xs v s w hx hl ho hs => ?_⟩
  obtain ⟨ao, cp, rfl⟩ := owns_len ho
  have HS : Hid (S s w) := hs
  clear hs ho
  show Calls _ _ #[.slice ao xs.length cp] _ _
  go_enter Tryz.func34, Tryz.ntmps34
  go_wp2
  exact ⟨rfl, KeepX.of_below (Below.refl _ _), rfl, HS.out⟩
set_option maxRecDepth 1000000 in
theorem max_ok (S : Unit → World → Prop) (R N : Nat) : ProbeOk S R N (.func (.func 35) #[] #[]) (fun xs s => (probeP wMax xs, s)) := by
  refine ⟨_, #[], rfl, fun args w => by simp, fun xs v s w hx hl ho hs => ?_⟩
  have HS : Hid (S s w) := hs
  obtain ⟨ao, cp, rfl⟩ := owns_len ho
  cases xs with
  | nil =>
    clear hs ho
    show Calls _ _ #[.slice ao 0 cp] _ _
    go_enter Tryz.func35, Tryz.ntmps35
    go_wp2
    go_ret2
    exact ⟨KeepX.of_below (Below.refl _ _), rfl, by unfold In64; simp, HS.out⟩
  | cons x xs =>
    have hcx : ∃ g, ao = some ⟨g, 0, none⟩ ∧ w.cell? ⟨g, 0, none⟩ = some (.int .i64 x) := by
      rcases ho.2 with ⟨q, -⟩ | ⟨g, cap, cur, q, -⟩
      · cases q
      · injection q with q
        subst q
        exact ⟨g, rfl, by simpa [ints, Addr.add] using ho.cells (g := g) rfl 0 (.int .i64 x) rfl⟩
    obtain ⟨g, rfl, hc⟩ := hcx
    have HX : Hid (In64 x) := hx x (by simp)
    clear hs ho hx
    show Calls _ _ #[.slice (some ⟨g, 0, none⟩) (xs.length + 1) cp] _ _
    have hpos : ¬ ((xs.length : Int) + 1 = 0) := by omega
    have hlt : (0 : Int) < (xs.length : Int) + 1 := by omega
    go_enter Tryz.func35, Tryz.ntmps35
    go_wp2
    go_ret2
    exact ⟨KeepX.of_below (Below.refl _ _), rfl, HX.out, HS.out⟩
/-- 'm[k] = v' of a literal. -/
theorem wpList_insert_F (w : World) {ops : Array Oper} {rest : List Oper} {o : Oper} {a : Act} {Q : Exit → Act → World → Prop}
    (hg : o.guard = none) (m x v : Operand) (hop : o.op = Op.insert 57 m x v) (b : Nat) (F : ByteArray → Option Value) (s : ByteArray) (val : Value)
    (hm : a.eval m = .map (some b)) (h : MapF w b F) (hx : a.eval x = .string s) (hv : a.eval v = val)
    (hK : ∀ w', MapF w' b (fun t => if t = s then some val else F t) → w.grownBy w' (some b) → wpList Tryz.prog ops Q rest (a.put o.dst undef) w') :
    wpList Tryz.prog ops Q (o :: rest) a w := by
  refine wpList_plain hg fun K' hK' => ?_
  obtain ⟨w', hrun, r1, r2⟩ := h.update s val
  unfold Oper.wp
  simp [execOp, hop, hm, hx, hv, hrun, Result.andThen]
  exact hK' _ _ (hK w' r1 r2)
set_option maxRecDepth 1000000 in
theorem plain_some (w : World) : Calls Tryz.prog 18 #[] w fun e w' => Below w.heap.size w w' ∧ e = .returned (.map (some w.heap.size)) ∧ MapF w' w.heap.size someF := by
  have hmm := @run_makeMap Tryz.prog
  have HN : Hid _ := MapF.new w
  go_enter Tryz.func18, Tryz.ntmps18
  go_wp2_with (first
    | (refine wpList_insert_F _ rfl _ _ _ rfl w.heap.size _ wSeven _ rfl HN.out rfl rfl ?_; intro w1 hm1 hg1; have Q1 : Hid _ := And.intro hm1 hg1; clear hm1 hg1)
    | (refine wpList_insert_F _ rfl _ _ _ rfl w.heap.size _ wBoom _ rfl Q1.out.1 rfl rfl ?_; intro w2 hm2 hg2; have Q2 : Hid _ := And.intro hm2 hg2; clear hm2 hg2)
    | (refine wpList_insert_F _ rfl _ _ _ rfl w.heap.size _ wMax _ rfl Q2.out.1 rfl rfl ?_; intro w3 hm3 hg3; have Q3 : Hid _ := And.intro hm3 hg3; clear hm3 hg3)
    | fail)
  go_ret
  have hgr : ∀ {x y : World}, Below w.heap.size w x → x.grownBy y (some w.heap.size) → Below w.heap.size w y := fun hb hg => ⟨hg.os.trans hb.os, hg.tape.trans hb.tape, hg.output.trans hb.output, Nat.le_trans hb.size hg.size, fun k hk => (hg.block k (by have := hb.size; omega) (fun e => by injection e with e; omega)).trans (hb.block k hk)⟩
  exact ⟨hgr (hgr (hgr ((Below.refl _ _).alloc (Nat.le_refl _) _) Q1.out.2) Q2.out.2) Q3.out.2, rfl, Q3.out.1.congr fun s => rfl⟩
theorem someF_func {s : ByteArray} {v : Value} (h : someF s = some v) : FuncV v := by
  unfold someF at h
  split at h
  · injection h with h; subst h; exact .inr ⟨_, _, _, rfl⟩
  · split at h
    · injection h with h; subst h; exact .inr ⟨_, _, _, rfl⟩
    · split at h
      · injection h with h; subst h; exact .inr ⟨_, _, _, rfl⟩
      · cases h
theorem someF_probe (S : Unit → World → Prop) (R N : Nat) {s : ByteArray} (h : thereP someF s) : ∃ fv, someF s = some fv ∧ ProbeOk S R N fv (envP.probe s) ∧ ProbeOk S R N fv (envN.probe s) := by
  obtain ⟨f, x, y, h⟩ := h
  unfold someF at h
  split at h
  · rename_i e; subst e; exact ⟨_, rfl, max_ok S R N, max_ok S R N⟩
  · split at h
    · rename_i e; subst e; exact ⟨_, rfl, boom_ok S R N, boom_ok S R N⟩
    · split at h
      · rename_i e; subst e; exact ⟨_, rfl, seven_ok S R N, seven_ok S R N⟩
      · cases h
end Go.Proofs.YtaghcjpoihkpjaaGreatDoor
namespace Go.Proofs.YtaghcjpoihkpjaaGreatDoor
open Go.RowKit Go.Lib

set_option maxRecDepth 1000000 in
theorem sevenX {σ : Type} {SF : Nat → σ → World → Prop} (hless : ∀ k s w, SF (k + 1) s w → SF k s w) (X : Nat → Prop) (N : Nat) : ProbeX SF X N (.func (.func 33) #[] #[]) (fun xs s => (probeP wSeven xs, s)) := by
  refine ⟨_, #[], rfl, fun args w => by simp, fun kf xs v s w hx hl ho hs => ?_⟩
  obtain ⟨ao, cp, rfl⟩ := owns_len ho
  have HS : Hid (SF kf s w) := hless _ _ _ hs
  clear hs ho
  show Calls _ _ #[.slice ao xs.length cp] _ _
  go_enter Tryz.func33, Tryz.ntmps33
  go_wp2
  go_ret2
  exact ⟨KeepX.of_below (Below.refl _ _), rfl, by unfold In64; omega, HS.out⟩
set_option maxRecDepth 1000000 in
theorem boomX {σ : Type} {SF : Nat → σ → World → Prop} (hless : ∀ k s w, SF (k + 1) s w → SF k s w) (X : Nat → Prop) (N : Nat) : ProbeX SF X N (.func (.func 34) #[] #[]) (fun xs s => (probeP wBoom xs, s)) := by
  refine ⟨_, #[], rfl, fun args w => by simp, fun kf xs v s w hx hl ho hs => ?_⟩
  obtain ⟨ao, cp, rfl⟩ := owns_len ho
  have HS : Hid (SF kf s w) := hless _ _ _ hs
  clear hs ho
  show Calls _ _ #[.slice ao xs.length cp] _ _
  go_enter Tryz.func34, Tryz.ntmps34
  go_wp2
  exact ⟨rfl, KeepX.of_below (Below.refl _ _), rfl, HS.out⟩
set_option maxRecDepth 1000000 in
theorem maxX {σ : Type} {SF : Nat → σ → World → Prop} (hless : ∀ k s w, SF (k + 1) s w → SF k s w) (X : Nat → Prop) (N : Nat) : ProbeX SF X N (.func (.func 35) #[] #[]) (fun xs s => (probeP wMax xs, s)) := by
  refine ⟨_, #[], rfl, fun args w => by simp, fun kf xs v s w hx hl ho hs => ?_⟩
  have HS : Hid (SF kf s w) := hless _ _ _ hs
  obtain ⟨ao, cp, rfl⟩ := owns_len ho
  cases xs with
  | nil =>
    clear hs ho
    show Calls _ _ #[.slice ao 0 cp] _ _
    go_enter Tryz.func35, Tryz.ntmps35
    go_wp2
    go_ret2
    exact ⟨KeepX.of_below (Below.refl _ _), rfl, by unfold In64; simp, HS.out⟩
  | cons x xs =>
    have hcx : ∃ g, ao = some ⟨g, 0, none⟩ ∧ w.cell? ⟨g, 0, none⟩ = some (.int .i64 x) := by
      rcases ho.2 with ⟨q, -⟩ | ⟨g, cap, cur, q, -⟩
      · cases q
      · injection q with q
        subst q
        exact ⟨g, rfl, by simpa [ints, Addr.add] using ho.cells (g := g) rfl 0 (.int .i64 x) rfl⟩
    obtain ⟨g, rfl, hc⟩ := hcx
    have HX : Hid (In64 x) := hx x (by simp)
    clear hs ho hx
    show Calls _ _ #[.slice (some ⟨g, 0, none⟩) (xs.length + 1) cp] _ _
    have hpos : ¬ ((xs.length : Int) + 1 = 0) := by omega
    have hlt : (0 : Int) < (xs.length : Int) + 1 := by omega
    go_enter Tryz.func35, Tryz.ntmps35
    go_wp2
    go_ret2
    exact ⟨KeepX.of_below (Below.refl _ _), rfl, HX.out, HS.out⟩
theorem someX {σ : Type} {SF : Nat → σ → World → Prop} (hless : ∀ k s w, SF (k + 1) s w → SF k s w) (X : Nat → Prop) (N : Nat) {s : ByteArray} (h : thereP someF s) : ∃ fv, someF s = some fv ∧ ProbeX SF X N fv (fun xs t => (probeP s xs, t)) := by
  obtain ⟨f, x, y, h⟩ := h
  unfold someF at h
  split at h
  · rename_i e; subst e; exact ⟨_, rfl, maxX hless X N⟩
  · split at h
    · rename_i e; subst e; exact ⟨_, rfl, boomX hless X N⟩
    · split at h
      · rename_i e; subst e; exact ⟨_, rfl, sevenX hless X N⟩
      · cases h
end Go.Proofs.YtaghcjpoihkpjaaGreatDoor
namespace Go.Proofs.YtaghcjpoihkpjaaGreatDoor
open Go.RowKit Go.Lib

/-- The probes of plain.some as a controller's. -/
abbrev probeT : ByteArray → List Int → WT → PFound × WT := fun nm xs s => (probeP nm xs, s)
/-- A kind of block that no controller turns. -/
def Calm (t : TypeId) : Prop := t ≠ 121 ∧ t ≠ 225 ∧ t ≠ 227
/-- Blocks of other kinds are kept. -/
def KeepT (w w' : World) : Prop := ∀ (b : Nat) (cs : Array Value) (t : TypeId) (fr : Nat × Nat), w.heap[b]? = some (Obj.cells cs t fr) → Calm t → w'.heap[b]? = w.heap[b]?
theorem KeepT.trans {w w1 w2 : World} (h : KeepT w w1) (k : KeepT w1 w2) : KeepT w w2 := fun b cs t fr hb ht => (k b cs t fr ((h b cs t fr hb ht).trans hb) ht).trans (h b cs t fr hb ht)
theorem KeepT.of_below {w w' : World} (h : Below w.heap.size w w') : KeepT w w' := fun b _ _ _ hb _ => h.block b (heap_lt hb)
/-- What is known of a program's probes wherever its blocks lie as they lay. -/
def ProbesOk (F : ByteArray → Option Value) (P : ByteArray → List Int → WT → PFound × WT) (wl : World) (lo c : Nat) (u : Tree) (sp : List (ByteArray × Int)) : Prop :=
  ∀ (w1 : World) (k' : Ctl) (pb m : Nat) (I : ByteArray → Nat) (st : ByteArray → Int → WSt), (∀ b, lo ≤ b → b < wl.heap.size → w1.heap[b]? = wl.heap[b]?) → wl.heap.size ≤ w1.heap.size → (∀ b, OfW sp st b → wl.heap.size ≤ b) →
    ∀ q ∈ asks u, ∃ fv, F q.2 = some fv ∧ ProbeX (fun _ => SC w1 c m (ptr pb) k' sp I st) (OfW sp st) w1.heap.size fv (P q.2)
/-- A controller in memory, its program, its windows. -/
structure LiveP (F : ByteArray → Option Value) (P : ByteArray → List Int → WT → PFound × WT) (A : Nat → Addr) (w0 wl : World) (lo c : Nat) (k : Ctl) (u : Tree) (sp : List (ByteArray × Int)) (T : WT) (w : World) : Prop where
  sents : SentsX A w0
  below : Below w0.heap.size w0 w
  ok : k.Ok
  fit : Fit u
  spans : ∀ q ∈ spansOf u, q ∈ sp
  times : TOk sp k.time T
  size : w0.heap.size ≤ wl.heap.size ∧ wl.heap.size ≤ c
  same : ∀ nm xs s, (P nm xs s).2 = s
  probe : ProbesOk F P wl lo c u sp
  ex : ∃ (pb m : Nat) (ms : List ByteArray) (I : ByteArray → Nat) (st : ByteArray → Int → WSt), ProgB lo wl pb u ms (asks u) sp F ∧ (∀ b, lo ≤ b → b < wl.heap.size → w.heap[b]? = wl.heap[b]?) ∧
    (∀ b, OfW sp st b → wl.heap.size ≤ b) ∧ CtlAt w c (ptr pb) (.map (some m)) k ∧ Wins w m sp I st ∧ ∀ q ∈ sp, (st q.1 q.2).time = (T q.1 q.2).1 ∧ (st q.1 q.2).kept = (T q.1 q.2).2
/-- .. with the probes of plain.some. -/
abbrev Live := LiveP someF probeT
/-- Blocks of other kinds are not the controller's. -/
theorem calm_other {w : World} {c m : Nat} {pv : Value} {k : Ctl} {sp : List (ByteArray × Int)} {I : ByteArray → Nat} {st : ByteArray → Int → WSt} (h7 : CtlAt w c pv (.map (some m)) k) (h8 : Wins w m sp I st) {b : Nat} {cs : Array Value} {t : TypeId} {fr : Nat × Nat} (hx : w.heap[b]? = some (.cells cs t fr)) (ht : Calm t) : ¬ (b = c ∨ OfW sp st b) := by
  rintro (rfl | ⟨q, hq, hm⟩)
  · rw [h7] at hx
    injection hx with hx
    injection hx with _ hx
    exact ht.1 hx.symm
  · obtain ⟨cs', T', e, h3⟩ := Win.mine_cells (h8.win _ hq) hm
    rw [hx] at e
    injection e with e
    injection e with _ e
    rcases h3 with ⟨t1, -⟩ | ⟨t1, -⟩
    · exact ht.2.1 (e.trans t1)
    · exact ht.2.2 (e.trans t1)
theorem KeepX.calm {w w' : World} {c m : Nat} {pv : Value} {k : Ctl} {sp : List (ByteArray × Int)} {I : ByteArray → Nat} {st : ByteArray → Int → WSt} (h7 : CtlAt w c pv (.map (some m)) k) (h8 : Wins w m sp I st) (h : KeepX (fun b => b = c ∨ OfW sp st b) w w') : KeepT w w' :=
  fun b _ _ _ hb ht => h.block b (heap_lt hb) (calm_other h7 h8 hb ht)
section
variable {F : ByteArray → Option Value} {P : ByteArray → List Int → WT → PFound × WT} {A : Nat → Addr} {w0 wl : World} {lo c : Nat} {k : Ctl} {u : Tree} {sp : List (ByteArray × Int)} {T : WT} {w : World}
theorem LiveP.le (h : LiveP F P A w0 wl lo c k u sp T w) : wl.heap.size ≤ w.heap.size := by
  obtain ⟨pb, m, ms, I, st, h2, h3, h6, h7, h8, h9⟩ := h.ex
  have := heap_lt h7
  have := h.size
  omega
theorem LiveP.go (h : LiveP F P A w0 wl lo c k u sp T w) {w' : World} (hb : Below w.heap.size w w') : LiveP F P A w0 wl lo c k u sp T w' := by
  obtain ⟨pb, m, ms, I, st, h2, h3, h6, h7, h8, h9⟩ := h.ex
  have hap := ctl_apart h7 h8
  have lc := heap_lt h7
  have hs := h.size
  exact ⟨h.sents, h.below.trans (hb.mono h.below.size), h.ok, h.fit, h.spans, h.times, hs, h.same, h.probe, pb, m, ms, I, st, h2, fun b l1 l2 => (hb.block b (by omega)).trans (h3 b l1 l2), h6, (hb.block c lc).trans h7, h8.moves fun b hx => hb.block b (hap.2 b hx).1, h9⟩
/-- A block of another kind is turned. -/
theorem LiveP.set (h : LiveP F P A w0 wl lo c k u sp T w) {w' : World} {b0 : Nat} {cs : Array Value} {t : TypeId} {fr : Nat × Nat} (hx : w.heap[b0]? = some (.cells cs t fr)) (ht : Calm t) (hw : w0.heap.size ≤ b0) (hl : b0 < lo ∨ wl.heap.size ≤ b0) (hk : KeepX (· = b0) w w') : LiveP F P A w0 wl lo c k u sp T w' := by
  obtain ⟨pb, m, ms, I, st, h2, h3, h6, h7, h8, h9⟩ := h.ex
  have hap := ctl_apart h7 h8
  have lc := heap_lt h7
  have hs := h.size
  have hno := calm_other h7 h8 hx ht
  have hb := h.below
  refine ⟨h.sents, ⟨hk.os.trans hb.os, hk.tape.trans hb.tape, hk.output.trans hb.output, Nat.le_trans hb.size hk.size, fun b lt => (hk.block b (Nat.lt_of_lt_of_le lt hb.size) (fun e => by have e : b = b0 := e; omega)).trans (hb.block b lt)⟩, h.ok, h.fit, h.spans, h.times, hs, h.same, h.probe, pb, m, ms, I, st, h2, fun b l1 l2 => (hk.block b (by omega) (fun e => by have e : b = b0 := e; omega)).trans (h3 b l1 l2), h6, (hk.block c lc fun e => hno (.inl (Eq.symm e))).trans h7, h8.moves fun b hx2 => hk.block b (hap.2 b hx2).1 fun e => ?_, h9⟩
  have e : b = b0 := e
  subst e
  rcases hx2 with rfl | ⟨q, hq, rfl | hm⟩
  · obtain ⟨F', hF', -⟩ := h8.outer
    obtain ⟨es, cl, he⟩ := hF'.isMap
    rw [he] at hx
    cases hx
  · obtain ⟨F', hF', -⟩ := h8.inner q hq
    obtain ⟨es, cl, he⟩ := hF'.isMap
    rw [he] at hx
    cases hx
  · exact hno (.inr ⟨q, hq, hm⟩)
theorem live_Feed (h : LiveP F P A w0 wl lo c k u sp T w) (name : ByteArray) {v t : Int} (hv : In64 v) (ht : In64 t) :
    Calls Tryz.prog 25 #[ptr c, .string name, .int .i64 v, .int .i64 t] w fun e w' => e = .returned ((k.feed sp T name v t).1.at A) ∧ LiveP F P A w0 wl lo c (k.feed sp T name v t).2.1 u sp (k.feed sp T name v t).2.2 w' ∧ KeepT w w' := by
  obtain ⟨pb, m, ms, I, st, h2, h3, h6, h7, h8, h9⟩ := h.ex
  have hs := h.size
  have lc := heap_lt h7
  refine (code_Feed (h.sents.below h.below).sents h7 h8 h9 h.times.time (name := name) (v := v) ht).mono ?_
  rintro e w' ⟨rfl, hk, hc, st', a1, a2⟩
  obtain ⟨m1, m2, m3, m4, m5⟩ := feed_moved h.ok h.times name hv ht
  have hb := h.below
  refine ⟨rfl, ⟨h.sents, ⟨hk.os.trans hb.os, hk.tape.trans hb.tape, hk.output.trans hb.output, Nat.le_trans hb.size hk.size, fun b lt => (hk.block b (Nat.lt_of_lt_of_le lt hb.size) (fun e => ?_)).trans (hb.block b lt)⟩, m2, h.fit, h.spans, m5, hs, h.same, h.probe, pb, m, ms, I, st', h2, fun b l1 l2 => (hk.block b (by omega) (fun e => ?_)).trans (h3 b l1 l2), fun b hx => ?_, hc, a1, fun q hq => (a2 q hq).2.2⟩, hk.calm h7 h8⟩
  · rcases e with e | e
    · omega
    · have := h6 b e
      omega
  · rcases e with e | e
    · omega
    · have := h6 b e
      omega
  · obtain ⟨q, hq, hm⟩ := hx
    obtain ⟨b1, b2, -⟩ := a2 q hq
    rcases hm with hm | hm
    · exact h6 b ⟨q, hq, .inl (hm.trans b1)⟩
    · rcases b2 with b2 | ⟨g, b2, b3⟩
      · exact h6 b ⟨q, hq, .inr (b2.symm.trans hm)⟩
      · rw [hm] at b2
        injection b2 with b2
        omega
theorem derr_shape {w : World} {d : DErr} {v : Value} (h : DErrAt A w d v) : v = .nilIface ∨ ∃ T x, v = .iface T x := by
  cases d with
  | fine => exact .inl h
  | stale => exact .inr ⟨_, _, h⟩
  | cooling => exact .inr ⟨_, _, h⟩
  | held p y => obtain ⟨b, T, x, h, -⟩ := h; exact .inr ⟨_, _, h⟩
theorem live_decide (h : LiveP F P A w0 wl lo c k u sp T w) {t : Int} (ht : In64 t) :
    Calls Tryz.prog 42 #[ptr c, .int .i64 t] w fun e w' => ∃ v, e = .returned v ∧ DErrAt A w' (k.decide P u T t).1 v ∧ LiveP F P A w0 wl lo c (k.decide P u T t).2.1 u sp (k.decide P u T t).2.2 w' ∧ KeepT w w' := by
  obtain ⟨pb, m, ms, I, st, h2, h3, h6, h7, h8, h9⟩ := h.ex
  have hs := h.size
  have lc := heap_lt h7
  refine (code_decide (P := P) h.sents h.below (by omega) (fun b hx => by have := h6 b hx; omega) h7 h.ok h8 h9 h.times.time h.times.vals h2 h3 h.fit h.spans h6 hs.2 (fun w1 k' hk1 q hq => h.probe w1 k' pb m I st (fun b l1 l2 => (hk1.block b (by omega) (fun e => by have e : b = c := e; omega)).trans (h3 b l1 l2)) (Nat.le_trans (by omega) hk1.size) h6 q hq) ht).mono ?_
  rintro e w' ⟨v, rfl, hk, hd, hc, st', a1, a2⟩
  obtain ⟨m1, m2, m3, m4, m5⟩ := decide_moved h.ok P h.same u h.times ht
  have hb := h.below
  refine ⟨v, rfl, hd, ⟨h.sents, ⟨hk.os.trans hb.os, hk.tape.trans hb.tape, hk.output.trans hb.output, Nat.le_trans hb.size hk.size, fun b lt => (hk.block b (Nat.lt_of_lt_of_le lt hb.size) (fun e => ?_)).trans (hb.block b lt)⟩, m2, h.fit, h.spans, m5, hs, h.same, h.probe, pb, m, ms, I, st', h2, fun b l1 l2 => (hk.block b (by omega) (fun e => ?_)).trans (h3 b l1 l2), fun b hx => ?_, hc, a1, fun q hq => (a2 q hq).2.2⟩, hk.calm h7 h8⟩
  · rcases e with e | e
    · omega
    · have := h6 b e
      omega
  · rcases e with e | e
    · omega
    · have := h6 b e
      omega
  · obtain ⟨q, hq, hm⟩ := hx
    exact h6 b ⟨q, hq, mine_same (a2 q hq).1 (a2 q hq).2.1 hm⟩
theorem derr_keep {w w' : World} {d : DErr} {v : Value} (h : DErrAt A w d v) {b0 : Nat} {cs : Array Value} {fr : Nat × Nat} (hx : w.heap[b0]? = some (.cells cs 77 fr)) (hk : KeepX (· = b0) w w') : DErrAt A w' d v := by
  cases d with
  | fine => exact h
  | stale => exact h
  | cooling => exact h
  | held p y =>
    have ne : ∀ {b : Nat} {cs2 : Array Value} {t2 : TypeId} {fr2 : Nat × Nat}, w.heap[b]? = some (Obj.cells cs2 t2 fr2) → t2 ≠ 77 → w'.heap[b]? = w.heap[b]? := fun {b cs2 t2 fr2} hb ht => hk.block b (heap_lt hb) fun e => by
      have e : b = b0 := e
      subst e
      rw [hx] at hb
      injection hb with hb
      injection hb with _ hb
      exact ht hb.symm
    obtain ⟨b, T, x, rfl, h1, h2⟩ := h
    refine ⟨b, T, x, rfl, (ne h1 (by decide)).trans h1, ?_⟩
    cases y with
    | divide => exact h2
    | noData => exact h2
    | failed => exact h2
    | panic n =>
      obtain ⟨e, c, rfl, h3⟩ := h2
      exact ⟨e, c, rfl, (ne h3 (by decide)).trans h3⟩
theorem live_Tick (h : LiveP F P A w0 wl lo c k u sp T w) {t : Int} (ht : In64 t) :
    Calls Tryz.prog 27 #[ptr c, .int .i64 t] w fun e w' => ∃ v, e = .returned (.agg #[.int .i64 t, .int .i64 (k.decide P u T t).2.1.count, v]) ∧ DErrAt A w' (k.decide P u T t).1 v ∧ LiveP F P A w0 wl lo c (k.decide P u T t).2.1 u sp (k.decide P u T t).2.2 w' ∧ KeepT w w' := by
  have hlt : wl.heap.size ≤ w.heap.size := by
    obtain ⟨pb, m, ms, I, st, h2, h3, h6, h7, h8, h9⟩ := h.ex
    have := heap_lt h7
    have := h.size
    omega
  refine (code_Tick_of (Q := fun v n w2 => n = (k.decide P u T t).2.1.count ∧ DErrAt A w2 (k.decide P u T t).1 v ∧ LiveP F P A w0 wl lo c (k.decide P u T t).2.1 u sp (k.decide P u T t).2.2 w2 ∧ KeepT w w2 ∧ ∃ cs fr, w2.heap[w.heap.size]? = some (.cells cs 77 fr)) fun W hb hnew => ?_).mono ?_
  · refine (live_decide (h.go hb) ht).mono ?_
    rintro e w2 ⟨v, rfl, h1, h2, h3⟩
    have hd := (h3 _ _ _ _ hnew (by unfold Calm; decide)).trans hnew
    refine ⟨v, _, rfl, ⟨rfl, h1, h2, (KeepT.of_below hb).trans h3, _, _, hd⟩, derr_shape h1, ?_, fun cs Ty he => ?_⟩
    · obtain ⟨pb, m, ms, I, st, q2, q3, q6, q7, q8, q9⟩ := h2.ex
      exact cell_of_heap q7 rfl
    · rw [hnew] at he
      rw [hd]
      exact he
  · rintro e w' ⟨v, n, w2, rfl, ⟨rfl, h1, h2, h3, cs, fr, hd⟩, hk⟩
    exact ⟨v, rfl, derr_keep h1 hd hk, h2.set hd (by unfold Calm; decide) (Nat.le_trans h.size.1 hlt) (.inr hlt) hk, fun b cs2 t2 fr2 hb ht2 => (hk.block b (heap_lt ((h3 b _ _ _ hb ht2).trans hb)) (fun e => by have := heap_lt hb; have e : b = w.heap.size := e; omega)).trans (h3 b _ _ _ hb ht2)⟩
end
end Go.Proofs.YtaghcjpoihkpjaaGreatDoor
