/-
  plain.look AND plain.some WITH ITS PROBES, WALKED.
-/
import Derived.Test.YtihmgoahobbdkaaGreatDoorJE33
import Derived.Test.YtihmgoahobbdkaaGreatDoorJE14
namespace Go.Proofs.YtihmgoahobbdkaaGreatDoor
open Go.RowKit Go.Lib

def wSeven : ByteArray := ⟨#[115, 101, 118, 101, 110]⟩
def wBoom : ByteArray := ⟨#[98, 111, 111, 109]⟩
def wMax : ByteArray := ⟨#[109, 97, 120]⟩
/-- The map that plain.some gives. -/
def someF : ByteArray → Option Value := fun t => if t = wMax then some (.func (.func 65) #[] #[]) else if t = wBoom then some (.func (.func 64) #[] #[]) else if t = wSeven then some (.func (.func 63) #[] #[]) else none
/-- What plain.look tells. -/
def lookP (n : Int) : Found := if n.tmod 5 ≠ 0 then .num (n.tmod 9 - 4) else .nothing (n.tmod 9 - 4)
def probeP (nm : ByteArray) (xs : List Int) : PFound := if nm = wMax then .val (xs.headD 0) else if nm = wBoom then .pan (-5) else .val 7
def envP : Env Unit := ⟨some fun _ _ n s => (lookP n, s), fun nm xs s => (probeP nm xs, s)⟩
def envN : Env Unit := ⟨none, fun nm xs s => (probeP nm xs, s)⟩
/-- Nothing that was there is turned. -/
def SB (w0 : World) : Unit → World → Prop := fun _ w => Below w0.heap.size w0 w
theorem SB.stable (w0 : World) : StableN w0.heap.size (SB w0) := ⟨fun _ _ h => h.size, fun _ _ _ h hb => h.trans hb⟩
theorem tmod_small (n k : Int) (hk : 0 < k) : -k < n.tmod k ∧ n.tmod k < k := by
  have h1 := Int.tmod_lt_of_pos n hk
  have h2 := Int.lt_tmod_of_pos n hk
  exact ⟨h2, h1⟩
set_option maxRecDepth 1000000 in
theorem look_ok (S : Unit → World → Prop) (R : Nat) : LookOk S R (.func (.func 40) #[] #[]) (fun _ _ n s => (lookP n, s)) := by
  refine ⟨_, #[], #[], rfl, fun args w => by simp, fun kind metric n s w hn hs => ?_⟩
  have h9 := tmod_small n 9 (by decide)
  have h5 := tmod_small n 5 (by decide)
  have HS : Hid (S s w) := hs
  have HN : Hid (In64 n) := hn
  have n1 := hn.1
  have n2 := hn.2
  clear hs hn
  show Calls _ _ #[.string kind, .string metric, .int .i64 n] _ _
  go_enter Tryz.func40, Tryz.ntmps40
  go_wp2
  go_ret2
  refine ⟨Keep.refl R w, ?_⟩
  show LookR S (lookP n, s) w (.returned (.tuple #[.int .i64 (n.tmod 9 - 4), .bool (n.tmod 5 != 0)]))
  unfold lookP
  by_cases h : n.tmod 5 = 0
  · rw [if_neg (by simpa using h), show (n.tmod 5 != 0) = false by simp [h]]
    exact ⟨rfl, HS.out⟩
  · rw [if_pos h, show (n.tmod 5 != 0) = true by simp [h]]
    exact ⟨rfl, by unfold In64; omega, HS.out⟩
set_option maxRecDepth 1000000 in
theorem seven_ok (S : Unit → World → Prop) (R N : Nat) : ProbeOk S R N (.func (.func 63) #[] #[]) (fun xs s => (probeP wSeven xs, s)) := by
  refine ⟨_, #[], rfl, fun args w => by simp, fun xs v s w hx hl ho hs => ?_⟩
  obtain ⟨ao, cp, rfl⟩ := owns_len ho
  have HS : Hid (S s w) := hs
  clear hs ho
  show Calls _ _ #[.slice ao xs.length cp] _ _
  go_enter Tryz.func63, Tryz.ntmps63
  go_wp2
  go_ret2
  exact ⟨KeepX.of_below (Below.refl _ _), rfl, by unfold In64; omega, HS.out⟩
set_option maxRecDepth 1000000 in
theorem boom_ok (S : Unit → World → Prop) (R N : Nat) : ProbeOk S R N (.func (.func 64) #[] #[]) (fun xs s => (probeP wBoom xs, s)) := by
  refine ⟨_, #[], rfl, fun args w => by simp, fun xs v s w hx hl ho hs => ?_⟩
  obtain ⟨ao, cp, rfl⟩ := owns_len ho
  have HS : Hid (S s w) := hs
  clear hs ho
  show Calls _ _ #[.slice ao xs.length cp] _ _
  go_enter Tryz.func64, Tryz.ntmps64
  go_wp2
  exact ⟨rfl, KeepX.of_below (Below.refl _ _), rfl, HS.out⟩
set_option maxRecDepth 1000000 in
theorem max_ok (S : Unit → World → Prop) (R N : Nat) : ProbeOk S R N (.func (.func 65) #[] #[]) (fun xs s => (probeP wMax xs, s)) := by
  refine ⟨_, #[], rfl, fun args w => by simp, fun xs v s w hx hl ho hs => ?_⟩
  have HS : Hid (S s w) := hs
  obtain ⟨ao, cp, rfl⟩ := owns_len ho
  cases xs with
  | nil =>
    clear hs ho
    show Calls _ _ #[.slice ao 0 cp] _ _
    go_enter Tryz.func65, Tryz.ntmps65
    go_wp2
    go_ret2
    exact ⟨KeepX.of_below (Below.refl _ _), rfl, by unfold In64; simp, HS.out⟩
  | cons x xs =>
    have hcx : ∃ g, ao = some ⟨g, 0, none⟩ ∧ w.cell? ⟨g, 0, none⟩ = some (.int .i64 x) := by
      rcases ho.2 with ⟨q, -⟩ | ⟨g, cap, cur, q, -⟩
      · cases q
      · injection q with q
        subst q
        exact ⟨g, rfl, by simpa [ints, Addr.add] using ho.cells (g := g) rfl 0 (.int .i64 x) rfl⟩
    obtain ⟨g, rfl, hc⟩ := hcx
    have HX : Hid (In64 x) := hx x (by simp)
    clear hs ho hx
    show Calls _ _ #[.slice (some ⟨g, 0, none⟩) (xs.length + 1) cp] _ _
    have hpos : ¬ ((xs.length : Int) + 1 = 0) := by omega
    have hlt : (0 : Int) < (xs.length : Int) + 1 := by omega
    go_enter Tryz.func65, Tryz.ntmps65
    go_wp2
    go_ret2
    exact ⟨KeepX.of_below (Below.refl _ _), rfl, HX.out, HS.out⟩
/-- 'm[k] = v' of a literal. -/
theorem wpList_insert_F (w : World) {ops : Array Oper} {rest : List Oper} {o : Oper} {a : Act} {Q : Exit → Act → World → Prop}
    (hg : o.guard = none) (m x v : Operand) (hop : o.op = Op.insert 80 m x v) (b : Nat) (F : ByteArray → Option Value) (s : ByteArray) (val : Value)
    (hm : a.eval m = .map (some b)) (h : MapF w b F) (hx : a.eval x = .string s) (hv : a.eval v = val)
    (hK : ∀ w', MapF w' b (fun t => if t = s then some val else F t) → w.grownBy w' (some b) → wpList Tryz.prog ops Q rest (a.put o.dst undef) w') :
    wpList Tryz.prog ops Q (o :: rest) a w := by
  refine wpList_plain hg fun K' hK' => ?_
  obtain ⟨w', hrun, r1, r2⟩ := h.update s val
  unfold Oper.wp
  simp [execOp, hop, hm, hx, hv, hrun, Result.andThen]
  exact hK' _ _ (hK w' r1 r2)
set_option maxRecDepth 1000000 in
theorem plain_some (w : World) : Calls Tryz.prog 39 #[] w fun e w' => Below w.heap.size w w' ∧ e = .returned (.map (some w.heap.size)) ∧ MapF w' w.heap.size someF := by
  have hmm := @run_makeMap Tryz.prog
  have HN : Hid _ := MapF.new w
  go_enter Tryz.func39, Tryz.ntmps39
  go_wp2_with (first
    | (refine wpList_insert_F _ rfl _ _ _ rfl w.heap.size _ wSeven _ rfl HN.out rfl rfl ?_; intro w1 hm1 hg1; have Q1 : Hid _ := And.intro hm1 hg1; clear hm1 hg1)
    | (refine wpList_insert_F _ rfl _ _ _ rfl w.heap.size _ wBoom _ rfl Q1.out.1 rfl rfl ?_; intro w2 hm2 hg2; have Q2 : Hid _ := And.intro hm2 hg2; clear hm2 hg2)
    | (refine wpList_insert_F _ rfl _ _ _ rfl w.heap.size _ wMax _ rfl Q2.out.1 rfl rfl ?_; intro w3 hm3 hg3; have Q3 : Hid _ := And.intro hm3 hg3; clear hm3 hg3)
    | fail)
  go_ret
  have hgr : ∀ {x y : World}, Below w.heap.size w x → x.grownBy y (some w.heap.size) → Below w.heap.size w y := fun hb hg => ⟨hg.os.trans hb.os, hg.tape.trans hb.tape, hg.output.trans hb.output, Nat.le_trans hb.size hg.size, fun k hk => (hg.block k (by have := hb.size; omega) (fun e => by injection e with e; omega)).trans (hb.block k hk)⟩
  exact ⟨hgr (hgr (hgr ((Below.refl _ _).alloc (Nat.le_refl _) _) Q1.out.2) Q2.out.2) Q3.out.2, rfl, Q3.out.1.congr fun s => rfl⟩
theorem someF_func {s : ByteArray} {v : Value} (h : someF s = some v) : FuncV v := by
  unfold someF at h
  split at h
  · injection h with h; subst h; exact .inr ⟨_, _, _, rfl⟩
  · split at h
    · injection h with h; subst h; exact .inr ⟨_, _, _, rfl⟩
    · split at h
      · injection h with h; subst h; exact .inr ⟨_, _, _, rfl⟩
      · cases h
theorem someF_probe (S : Unit → World → Prop) (R N : Nat) {s : ByteArray} (h : thereP someF s) : ∃ fv, someF s = some fv ∧ ProbeOk S R N fv (envP.probe s) ∧ ProbeOk S R N fv (envN.probe s) := by
  obtain ⟨f, x, y, h⟩ := h
  unfold someF at h
  split at h
  · rename_i e; subst e; exact ⟨_, rfl, max_ok S R N, max_ok S R N⟩
  · split at h
    · rename_i e; subst e; exact ⟨_, rfl, boom_ok S R N, boom_ok S R N⟩
    · split at h
      · rename_i e; subst e; exact ⟨_, rfl, seven_ok S R N, seven_ok S R N⟩
      · cases h
end Go.Proofs.YtihmgoahobbdkaaGreatDoor
namespace Go.Proofs.YtihmgoahobbdkaaGreatDoor
open Go.RowKit Go.Lib

set_option maxRecDepth 1000000 in
set_option maxHeartbeats 1000000 in
theorem plain_Parse (s : ByteArray) {A : Nat → Addr} {w : World} (hT : Tabs w) (hA : Sents A w) :
    Calls Tryz.prog 8 #[.string s] w fun e w' => ∃ (t : Option Tree) (f p : Nat), PRel s (t, f, p) ∧ e = .returned (.tuple #[.bool t.isSome, told f p]) ∧ Below w.heap.size w w' := by
  have hx : Below w.heap.size w (w.alloc (.cells #[.int .i64 0, .int .i64 0, .int .i64 0, .string { data := #[] }] 23)) := (Below.refl _ _).alloc (Nat.le_refl _) _
  have hA0 := hA.below hx
  have hp := code_Parse s _ (hT.below hx) (A 0) hA0.g0
  have HA : Hid _ := hA0
  have HX : Hid (Below w.heap.size w (w.alloc (.cells #[.int .i64 0, .int .i64 0, .int .i64 0, .string { data := #[] }] 23))) := hx
  clear hT hA hx hA0
  go_enter Tryz.func8, Tryz.ntmps8
  go_wp2_with fail
  refine hp.mono ?_
  rintro e w1 ⟨hb1, hc⟩
  clear hp
  have hof : ∃ (t : Option Tree) (f p : Nat) (pa : Option Addr) (ev : Value), PRel s (t, f, p) ∧ t.isSome = pa.isSome ∧ e = .returned (.tuple #[.pointer pa, ev]) ∧ Calls Tryz.prog 24 #[ev] w1 fun e w' => e = .returned (told f p) ∧ Below w1.heap.size w1 w' := by
    rcases hc with ⟨h1, rfl⟩ | ⟨h1, ⟨J, b, h2, rfl, h3⟩ | ⟨t, J, a, h2, h3, rfl, -⟩⟩
    · exact ⟨none, 1, 0, none, _, .inl ⟨h1, rfl⟩, rfl, rfl, of_long (HA.out.below hb1)⟩
    · refine ⟨none, 2, pl (toks s) J, none, _, .inr ⟨h1, ?_⟩, rfl, rfl, of_syntax w1 h3⟩
      rcases h2 with h2 | ⟨t, h2, h4⟩
      · exact .inl ⟨J, h2, rfl⟩
      · exact .inr (.inl ⟨t, J, h2, h4, rfl⟩)
    · exact ⟨some t, 0, 0, some a, _, .inr ⟨h1, .inr (.inr ⟨t, J, h2, h3, rfl⟩)⟩, rfl, rfl, of_nil w1⟩
  obtain ⟨t, f, p, pa, ev, hP, ht, rfl, hof⟩ := hof
  have HP : Hid (PRel s (t, f, p)) := hP
  have HB1 : Hid _ := hb1
  clear hP hc hb1
  have hne : ∀ W, (binOp .neq 58 (.pointer pa) (.pointer none)).run Tryz.prog W = .ok (.bool pa.isSome) W := fun W => by cases pa <;> kernel_rfl
  go_wp2_with fail
  refine hof.mono ?_
  rintro e w2 ⟨rfl, hb2⟩
  have bn : w2.heap[w.heap.size]? = some (.cells #[.int .i64 0, .int .i64 0, .int .i64 0, .string { data := #[] }] 23 (0, 0)) := (hb2.block _ (Nat.lt_of_lt_of_le (by simp) HB1.out.size)).trans ((HB1.out.block _ (by simp)).trans cells_new)
  have c0 := cell_of_heap (i := 0) bn rfl
  have c1 := cell_of_heap (i := 1) bn rfl
  have c2 := cell_of_heap (i := 2) bn rfl
  have c3 := cell_of_heap (i := 3) bn rfl
  have z0 := frozen_of_heap (i := 0) bn
  have z1 := frozen_of_heap (i := 1) bn
  have z2 := frozen_of_heap (i := 2) bn
  have z3 := frozen_of_heap (i := 3) bn
  have HB : Hid (Below w.heap.size w w2) := (HX.out.trans (HB1.out.mono (by simp))).trans (hb2.mono (by have := HB1.out.size; simp at this; omega))
  clear bn hb2 hof HX HB1 HA
  go_wp2
  refine bodyPost_ret (v := .tuple #[.bool t.isSome, told f p]) (by simp [results, Tryz.results8, go_sem, c0, c1, c2, c3, ht]) rfl ⟨t, f, p, HP.out, rfl, ?_⟩
  exact (((HB.out.setCell (Nat.le_refl _) _).setCell (Nat.le_refl _) _).setCell (Nat.le_refl _) _).setCell (Nat.le_refl _) _
end Go.Proofs.YtihmgoahobbdkaaGreatDoor
namespace Go.Proofs.YtihmgoahobbdkaaGreatDoor
open Go.RowKit Go.Lib

theorem PRel.forms {s : ByteArray} {t : Option Tree} {f p : Nat} (h : PRel s (t, f, p)) : (t.isSome = false ∧ f = 1 ∧ p = 0) ∨ (t.isSome = false ∧ f = 2) ∨ (t.isSome = true ∧ f = 0 ∧ p = 0) := by
  rcases h with ⟨-, h⟩ | ⟨-, ⟨J, -, h⟩ | ⟨t, J, -, -, h⟩ | ⟨t, J, -, -, h⟩⟩
  · injection h with h1 h2; injection h2 with h2 h3; subst h1; exact .inl ⟨rfl, h2, h3⟩
  · injection h with h1 h2; injection h2 with h2 h3; subst h1; exact .inr (.inl ⟨rfl, h2⟩)
  · injection h with h1 h2; injection h2 with h2 h3; subst h1; exact .inr (.inl ⟨rfl, h2⟩)
  · injection h with h1 h2; injection h2 with h2 h3; subst h1; exact .inr (.inr ⟨rfl, h2, h3⟩)

set_option maxRecDepth 1000000 in
set_option maxHeartbeats 1000000 in
theorem law_Parses (s : ByteArray) (hs : s.size ≤ 9223372036854775807) {A : Nat → Addr} {w : World} (hT : Tabs w) (hA : Sents A w) :
    Calls Tryz.prog 3 #[.string s] w fun e w' => e = .returned (.bool true) ∧ Below w.heap.size w w' := by
  have hp := plain_Parse s hT hA
  have HT : Hid (Tabs w) := hT
  clear hT hA
  go_enter Tryz.func3, Tryz.ntmps3
  go_wp2_with fail
  refine hp.mono ?_
  rintro e w1 ⟨t, f, p, hP, rfl, hb1⟩
  have HP : Hid (PRel s (t, f, p)) := hP
  have HB1 : Hid (Below w.heap.size w w1) := hb1
  have hsz := hb1.size
  clear hp hP hb1
  go_wp2_with fail
  obtain ⟨X, hX⟩ : ∃ X, X = w1.alloc (.cells #[.int .i64 f, .int .i64 p, .int .i64 0, .string { data := #[] }] 23) := ⟨_, rfl⟩
  rw [← hX]
  have hBX : Below w.heap.size w X := by rw [hX]; exact HB1.out.alloc hsz _
  have bn : X.heap[w1.heap.size]? = some (.cells #[.int .i64 f, .int .i64 p, .int .i64 0, .string { data := #[] }] 23 (0, 0)) := by rw [hX]; exact cells_new
  have lX := heap_lt bn
  refine (ref_parse s hs X (HT.out.below hBX)).mono ?_
  rintro e w2 ⟨t2, f2, p2, pa, rfl, hP2, hb2, -⟩
  have hd := HP.out.det hP2
  injection hd with e1 e2
  injection e2 with e2 e3
  subst e1 e2 e3
  have bn2 := (hb2.block _ lX).trans bn
  have c0 := cell_of_heap (i := 0) bn2 rfl
  have c1 := cell_of_heap (i := 1) bn2 rfl
  have c2 := cell_of_heap (i := 2) bn2 rfl
  have c3 := cell_of_heap (i := 3) bn2 rfl
  have HB2 : Hid (Below w.heap.size w w2) := hBX.trans (hb2.mono hBX.size)
  have hfm := HP.out.forms
  clear hb2 hBX bn bn2 hX HB1 hP2 HP
  rcases hfm with ⟨ht, rfl, rfl⟩ | ⟨ht, rfl⟩ | ⟨ht, rfl, rfl⟩
  all_goals
    rw [ht]
    go_wp2
    go_ret
    exact ⟨rfl, HB2.out⟩
end Go.Proofs.YtihmgoahobbdkaaGreatDoor
namespace Go.Proofs.YtihmgoahobbdkaaGreatDoor
open Go.RowKit Go.Lib

set_option maxRecDepth 1000000 in
set_option maxHeartbeats 1000000 in
theorem law_Roots (s : ByteArray) (n : Int) (hs : s.size ≤ 9223372036854775807) {A : Addr} {w : World} (hT : Tabs w) (hA : w.cell? ⟨1, 0, none⟩ = some (.iface 355 (.pointer (some A)))) :
    Calls Tryz.prog 4 #[.string s, .int .i64 n] w fun e w' => e = .returned (.bool true) ∧ Below w.heap.size w w' := by
  have hr := ref_parse s hs w hT
  have HT : Hid (Tabs w) := hT
  have HA : Hid (w.cell? ⟨1, 0, none⟩ = some (.iface 355 (.pointer (some A)))) := hA
  clear hT hA
  go_enter Tryz.func4, Tryz.ntmps4
  go_wp2_with fail
  refine hr.mono ?_
  rintro e w1 ⟨t, f, p, pa, rfl, hP, hb1, htr⟩
  have hm := plain_Metrics s n (HT.out.below hb1) ((World.cell?_of_block (hb1.block _ (World.block_lt_of_cell? w _ HA.out))).trans HA.out)
  have HP : Hid (PRel s (t, f, p)) := hP
  have HB1 : Hid (Below w.heap.size w w1) := hb1
  have HTR : Hid (TreeAt w.heap.size w1 t (.pointer pa)) := htr
  clear hr hP hb1 htr HT HA
  go_wp2_with fail
  refine hm.mono ?_
  rintro e w2 ⟨t2, f2, p2, hP2, hb2, hM⟩
  have hd := HP.out.det hP2
  injection hd with e1 e2
  injection e2 with e2 e3
  subst e1 e2 e3
  have HB2 : Hid (Below w.heap.size w w2) := HB1.out.trans (hb2.mono HB1.out.size)
  have hfm := HP.out.forms
  have HB12 : Hid (Below w1.heap.size w1 w2) := hb2
  clear hP2 hb2 hm HP
  cases t with
  | none =>
    have hM : e = .returned (.tuple #[.slice none 0 0, .slice none 0 0, .bool false]) := hM
    subst hM
    have hf : f ≠ 0 := by
      rcases hfm with ⟨-, h, -⟩ | ⟨-, h⟩ | ⟨h, -⟩
      · omega
      · omega
      · cases h
    have hfb : (((f : Nat) : Int) != 0) = true := by rw [bne_iff_ne]; omega
    go_wp2
    go_ret
    exact ⟨rfl, HB2.out⟩
  | some t =>
    obtain ⟨hmb, hfi, va, vb, rfl, hta, htb⟩ := hM
    have hf : f = 0 := by
      rcases hfm with ⟨h, -⟩ | ⟨h, -⟩ | ⟨-, h, -⟩
      · cases h
      · cases h
      · exact h
    subst hf
    have hnb := notes_bound hmb
    have hnode : IsNode (fun b => b < w2.heap.size) w2 t (.pointer pa) := by
      have q : IsNode (From w.heap.size) w1 t (.pointer pa) := HTR.out
      exact q.moves fun b hb hlt => ⟨Nat.lt_of_lt_of_le hlt HB12.out.size, HB12.out.block b hlt⟩
    have hme := ref_metrics t hfi _ w2.heap.size w2 (.pointer pa) (.slice none 0 0) [] (fun b hb => hb) (Nat.le_refl _) hnode (World.ownsRow_nil _ _ _ _) (by simp; omega)
    have HTA : Hid (Txts w2 va (firstN n (notes [] (mets t)))) := hta
    have HTB : Hid (Txts w2 vb (notes [] (mets t))) := htb
    obtain ⟨ta, tac, rfl, -⟩ := hta
    obtain ⟨ub, ubc, rfl, -⟩ := htb
    clear hmb hfi hnode hfm
    go_wp2_with fail
    refine hme.mono ?_
    rintro e w3 ⟨lv, rfl, ho3, hb3⟩
    have hfi := law_first (.of_owns ho3) n
    have hs2 : ∀ W, Below w3.heap.size w3 W → Calls Tryz.prog 13 #[.slice ub (notes [] (mets t)).length ubc, lv] W fun e w' => e = .returned (.bool true) ∧ Below W.heap.size W w' := fun W hW => law_same ((HTB.out.below hb3).below hW) ((Txts.of_owns ho3).below hW) (by omega)
    have HTA3 : Hid _ := HTA.out.below hb3
    have HB3 : Hid (Below w.heap.size w w3) := HB2.out.trans (hb3.mono HB2.out.size)
    obtain ⟨lo, lc, rfl⟩ := owns_slice_len ho3
    clear hme hb3 ho3 HTA HTB
    go_wp2_with fail
    refine hfi.mono ?_
    rintro e w' ⟨⟨v', rfl, hv'⟩, hw⟩
    have hw := hw.symm
    subst hw
    have hs1 := law_same HTA3.out hv' (by
      unfold firstN
      split
      · rw [List.length_take]; omega
      · omega)
    obtain ⟨vo, vc, rfl, -⟩ := hv'
    clear hfi
    go_wp2_with fail
    refine hs1.mono ?_
    rintro e w4 ⟨rfl, hb4⟩
    have hs2 := hs2 w4 hb4
    have HB4 : Hid (Below w.heap.size w w4) := HB3.out.trans (hb4.mono HB3.out.size)
    clear hs1 hb4
    go_wp2_with fail
    refine hs2.mono ?_
    rintro e w5 ⟨rfl, hb5⟩
    have HB5 : Hid (Below w.heap.size w w5) := HB4.out.trans (hb5.mono HB4.out.size)
    clear hs2 hb5
    go_wp2
    go_ret
    exact ⟨rfl, HB5.out⟩
end Go.Proofs.YtihmgoahobbdkaaGreatDoor
