/-
  A CONTROLLER ASKED FROM OUTSIDE: plain's Feed and Tick, WALKED.
-/
import Derived.Test.YtaghcjpoihkpjaaGreatDoorJM43
import Derived.Test.YtaghcjpoihkpjaaGreatDoorJM4
import Derived.Test.YtaghcjpoihkpjaaGreatDoorJM11
import Derived.Test.YtaghcjpoihkpjaaGreatDoorJM41
import Derived.Test.YtaghcjpoihkpjaaGreatDoorJM26
namespace Go.Proofs.YtaghcjpoihkpjaaGreatDoor
open Go.RowKit Go.Lib

/-! What a decision's error is told as, part by part. -/
def whyE : Why → Int
  | .divide => 8
  | .noData => 9
  | .failed => 10
  | .panic _ => 11
def whyM : Why → Int
  | .panic n => n
  | _ => 0
def DErr.e : DErr → Int
  | .fine => 0
  | .stale => 6
  | .cooling => 12
  | .held _ y => whyE y
def DErr.p : DErr → Int
  | .held p _ => (p : Int)
  | _ => 0
def DErr.m : DErr → Int
  | .held _ y => whyM y
  | _ => 0
def FErr.e : FErr → Int
  | .fine => 0
  | .stale => 6
  | .metric => 7
theorem of_derr {A : Nat → Addr} {w : World} {d : DErr} {v : Value} (hs : SentsX A w) (h : DErrAt A w d v) : Calls Tryz.prog 21 #[v] w fun e w' => e = .returned (.agg #[.int .i64 d.e, .int .i64 d.p, .int .i64 d.m, .string { data := #[] }]) ∧ Below w.heap.size w w' := by
  cases d with
  | fine => have h : v = .nilIface := h; subst h; exact of_nil w
  | stale => have h : v = _ := h; subst h; exact of_stale hs
  | cooling => have h : v = _ := h; subst h; exact of_cooling hs
  | held p y =>
    obtain ⟨b, T, x, rfl, h1, h2⟩ := h
    refine (of_hold hs h1 h2).mono ?_
    rintro e w' ⟨rfl, hb⟩
    refine ⟨?_, hb⟩
    cases y <;> rfl
theorem of_ferr {A : Nat → Addr} {w : World} (hs : SentsX A w) (d : FErr) : Calls Tryz.prog 21 #[d.at A] w fun e w' => e = .returned (.agg #[.int .i64 d.e, .int .i64 0, .int .i64 0, .string { data := #[] }]) ∧ Below w.heap.size w w' := by
  cases d with
  | fine => exact of_nil w
  | stale => exact of_stale hs
  | metric => exact of_metric hs
theorem derr_below {A : Nat → Addr} {w w' : World} {d : DErr} {v : Value} (h : DErrAt A w d v) (hb : Below w.heap.size w w') : DErrAt A w' d v := by
  cases d with
  | fine => exact h
  | stale => exact h
  | cooling => exact h
  | held p y =>
    obtain ⟨b, T, x, rfl, h1, h2⟩ := h
    exact ⟨b, T, x, rfl, (hb.block b (heap_lt h1)).trans h1, h2.below hb⟩
section
variable {F : ByteArray → Option Value} {P : ByteArray → List Int → WT → PFound × WT} {A : Nat → Addr} {w0 wl : World} {lo c x : Nat} {k : Ctl} {u : Tree} {sp : List (ByteArray × Int)} {T : WT} {w : World}
set_option maxRecDepth 1000000 in
set_option maxHeartbeats 1000000 in
theorem plain_decision {d : DErr} {v : Value} {t n : Int} (hs : SentsX A w) (h : DErrAt A w d v) : Calls Tryz.prog 26 #[.agg #[.int .i64 t, .int .i64 n, v]] w fun e w' => e = .returned (.agg #[.int .i64 t, .int .i64 n, .int .i64 0, .int .i64 0, .int .i64 d.e, .int .i64 d.p, .int .i64 d.m, .string { data := #[] }]) ∧ Below w.heap.size w w' := by
  have hx : Below w.heap.size w ((w.alloc (.cells #[.int .i64 t, .int .i64 n, v] 77)).alloc (.cells #[.int .i64 0, .int .i64 0, .int .i64 0, .int .i64 0, .int .i64 0, .int .i64 0, .int .i64 0, .string { data := #[] }] 45)) := ((Below.refl _ _).alloc (Nat.le_refl _) _).alloc (by simp) _
  have hp : ((w.alloc (.cells #[.int .i64 t, .int .i64 n, v] 77)).alloc (.cells #[.int .i64 0, .int .i64 0, .int .i64 0, .int .i64 0, .int .i64 0, .int .i64 0, .int .i64 0, .string { data := #[] }] 45)).heap[w.heap.size]? = some (.cells #[.int .i64 t, .int .i64 n, v] 77 (0, 0)) := heap_alloc_old (heap_alloc_new _ _)
  have hr : ((w.alloc (.cells #[.int .i64 t, .int .i64 n, v] 77)).alloc (.cells #[.int .i64 0, .int .i64 0, .int .i64 0, .int .i64 0, .int .i64 0, .int .i64 0, .int .i64 0, .string { data := #[] }] 45)).heap[w.heap.size + 1]? = some (.cells #[.int .i64 0, .int .i64 0, .int .i64 0, .int .i64 0, .int .i64 0, .int .i64 0, .int .i64 0, .string { data := #[] }] 45 (0, 0)) := by
    have := heap_alloc_new (w.alloc (.cells #[.int .i64 t, .int .i64 n, v] 77)) (.cells #[.int .i64 0, .int .i64 0, .int .i64 0, .int .i64 0, .int .i64 0, .int .i64 0, .int .i64 0, .string { data := #[] }] 45)
    simpa using this
  have hof := of_derr (hs.below hx.drew) (derr_below h hx.drew)
  have hv := derr_shape h
  have k0 := cell_of_heap (i := 0) (v := .int .i64 t) hp rfl
  have k1 := cell_of_heap (i := 1) (v := .int .i64 n) hp rfl
  have k2 := cell_of_heap (i := 2) (v := v) hp rfl
  have HH : Hid _ := And.intro hx (And.intro hp hr)
  clear h hs hx hp hr
  generalize d.e = de at *
  generalize d.p = dp at *
  generalize d.m = dm at *
  have hold : ∀ w2, Below ((w.alloc (.cells #[.int .i64 t, .int .i64 n, v] 77)).alloc (.cells #[.int .i64 0, .int .i64 0, .int .i64 0, .int .i64 0, .int .i64 0, .int .i64 0, .int .i64 0, .string { data := #[] }] 45)).drew.heap.size ((w.alloc (.cells #[.int .i64 t, .int .i64 n, v] 77)).alloc (.cells #[.int .i64 0, .int .i64 0, .int .i64 0, .int .i64 0, .int .i64 0, .int .i64 0, .int .i64 0, .string { data := #[] }] 45)).drew w2 → Hid (Below w.heap.size w w2 ∧ w2.heap[w.heap.size]? = some (.cells #[.int .i64 t, .int .i64 n, v] 77 (0, 0)) ∧ w2.heap[w.heap.size + 1]? = some (.cells #[.int .i64 0, .int .i64 0, .int .i64 0, .int .i64 0, .int .i64 0, .int .i64 0, .int .i64 0, .string { data := #[] }] 45 (0, 0))) := fun w2 hb => ⟨HH.out.1.drew.trans (hb.mono HH.out.1.size), (hb.block _ (heap_lt HH.out.2.1)).trans HH.out.2.1, (hb.block _ (heap_lt HH.out.2.2)).trans HH.out.2.2⟩
  have HOLD : Hid _ := hold
  clear hold
  rcases hv with rfl | ⟨T, x, rfl⟩
  · go_enter Tryz.func26, Tryz.ntmps26
    go_wp2_with fail
    go_region_held3 (fun w' => w'.cell? ⟨w.heap.size, 0, none⟩ = some (.int .i64 t) ∧ w'.cell? ⟨w.heap.size, 1, none⟩ = some (.int .i64 n) ∧ w'.cell? ⟨w.heap.size, 2, none⟩ = some (.nilIface)) (go_keep)
      (first
        | (go_at_call 21; refine hof.mono ?_; rintro e w2 ⟨rfl, hb2⟩; have H2 := HOLD.out w2 hb2; have e0 := cell_of_heap (i := 0) (v := .int .i64 t) H2.out.2.1 rfl; have e1 := cell_of_heap (i := 1) (v := .int .i64 n) H2.out.2.1 rfl; have e2 := cell_of_heap (i := 2) (v := .nilIface) H2.out.2.1 rfl; have rc0 := cell_of_heap (i := 0) (v := .int .i64 0) H2.out.2.2 rfl; have rz0 := frozen_of_heap (i := 0) H2.out.2.2; have rc1 := cell_of_heap (i := 1) (v := .int .i64 0) H2.out.2.2 rfl; have rz1 := frozen_of_heap (i := 1) H2.out.2.2; have rc2 := cell_of_heap (i := 2) (v := .int .i64 0) H2.out.2.2 rfl; have rz2 := frozen_of_heap (i := 2) H2.out.2.2; have rc3 := cell_of_heap (i := 3) (v := .int .i64 0) H2.out.2.2 rfl; have rz3 := frozen_of_heap (i := 3) H2.out.2.2; have rc4 := cell_of_heap (i := 4) (v := .int .i64 0) H2.out.2.2 rfl; have rz4 := frozen_of_heap (i := 4) H2.out.2.2; have rc5 := cell_of_heap (i := 5) (v := .int .i64 0) H2.out.2.2 rfl; have rz5 := frozen_of_heap (i := 5) H2.out.2.2; have rc6 := cell_of_heap (i := 6) (v := .int .i64 0) H2.out.2.2 rfl; have rz6 := frozen_of_heap (i := 6) H2.out.2.2; have rc7 := cell_of_heap (i := 7) (v := .string { data := #[] }) H2.out.2.2 rfl; have rz7 := frozen_of_heap (i := 7) H2.out.2.2; clear hb2))
    all_goals
      go_wp2
      refine bodyPost_ret (v := .agg #[.int .i64 t, .int .i64 n, .int .i64 0, .int .i64 0, .int .i64 de, .int .i64 dp, .int .i64 dm, .string { data := #[] }]) (by simp [results, Tryz.results26, go_sem, rc0, rc1, rc2, rc3, rc4, rc5, rc6, rc7]) rfl ?_
      exact ⟨rfl, by (iterate 8 (refine Below.setCell ?_ (by show w.heap.size ≤ w.heap.size + 1; omega) _)); exact H2.out.1⟩
  · go_enter Tryz.func26, Tryz.ntmps26
    go_wp2_with fail
    go_region_held3 (fun w' => w'.cell? ⟨w.heap.size, 0, none⟩ = some (.int .i64 t) ∧ w'.cell? ⟨w.heap.size, 1, none⟩ = some (.int .i64 n) ∧ w'.cell? ⟨w.heap.size, 2, none⟩ = some (.iface T x)) (go_keep)
      (first
        | (go_at_call 21; refine hof.mono ?_; rintro e w2 ⟨rfl, hb2⟩; have H2 := HOLD.out w2 hb2; have e0 := cell_of_heap (i := 0) (v := .int .i64 t) H2.out.2.1 rfl; have e1 := cell_of_heap (i := 1) (v := .int .i64 n) H2.out.2.1 rfl; have e2 := cell_of_heap (i := 2) (v := .iface T x) H2.out.2.1 rfl; have rc0 := cell_of_heap (i := 0) (v := .int .i64 0) H2.out.2.2 rfl; have rz0 := frozen_of_heap (i := 0) H2.out.2.2; have rc1 := cell_of_heap (i := 1) (v := .int .i64 0) H2.out.2.2 rfl; have rz1 := frozen_of_heap (i := 1) H2.out.2.2; have rc2 := cell_of_heap (i := 2) (v := .int .i64 0) H2.out.2.2 rfl; have rz2 := frozen_of_heap (i := 2) H2.out.2.2; have rc3 := cell_of_heap (i := 3) (v := .int .i64 0) H2.out.2.2 rfl; have rz3 := frozen_of_heap (i := 3) H2.out.2.2; have rc4 := cell_of_heap (i := 4) (v := .int .i64 0) H2.out.2.2 rfl; have rz4 := frozen_of_heap (i := 4) H2.out.2.2; have rc5 := cell_of_heap (i := 5) (v := .int .i64 0) H2.out.2.2 rfl; have rz5 := frozen_of_heap (i := 5) H2.out.2.2; have rc6 := cell_of_heap (i := 6) (v := .int .i64 0) H2.out.2.2 rfl; have rz6 := frozen_of_heap (i := 6) H2.out.2.2; have rc7 := cell_of_heap (i := 7) (v := .string { data := #[] }) H2.out.2.2 rfl; have rz7 := frozen_of_heap (i := 7) H2.out.2.2; clear hb2))
    all_goals
      go_wp2
      refine bodyPost_ret (v := .agg #[.int .i64 t, .int .i64 n, .int .i64 0, .int .i64 0, .int .i64 de, .int .i64 dp, .int .i64 dm, .string { data := #[] }]) (by simp [results, Tryz.results26, go_sem, rc0, rc1, rc2, rc3, rc4, rc5, rc6, rc7]) rfl ?_
      exact ⟨rfl, by (iterate 8 (refine Below.setCell ?_ (by show w.heap.size ≤ w.heap.size + 1; omega) _)); exact H2.out.1⟩
set_option maxRecDepth 1000000 in
set_option maxHeartbeats 1000000 in
theorem plain_Feed (hx : w.heap[x]? = some (.cells #[ptr c] 73 (0, 0))) (h : LiveP F P A w0 wl lo c k u sp T w) (name : ByteArray) {v t : Int} (hv : In64 v) (ht : In64 t) :
    Calls Tryz.prog 13 #[ptr x, .string name, .int .i64 v, .int .i64 t] w fun e w' => e = .returned (.agg #[.int .i64 (k.feed sp T name v t).1.e, .int .i64 0, .int .i64 0, .string { data := #[] }]) ∧ LiveP F P A w0 wl lo c (k.feed sp T name v t).2.1 u sp (k.feed sp T name v t).2.2 w' ∧ KeepT w w' := by
  have c0 : w.cell? ⟨x, 0, none⟩ = some (ptr c) := cell_of_heap hx rfl
  have lx := heap_lt hx
  have hw1 : Below w.heap.size w (w.alloc (.cells #[.int .i64 0, .int .i64 0, .int .i64 0, .string { data := #[] }] 24)) := (Below.refl _ _).alloc (Nat.le_refl _) _
  have hr1 : (w.alloc (.cells #[.int .i64 0, .int .i64 0, .int .i64 0, .string { data := #[] }] 24)).heap[w.heap.size]? = some (.cells #[.int .i64 0, .int .i64 0, .int .i64 0, .string { data := #[] }] 24 (0, 0)) := heap_alloc_new _ _
  have hf := live_Feed (h.go hw1) name hv ht
  have HW : Hid _ := And.intro hw1 (And.intro hr1 h)
  clear h hx hw1 hr1
  go_enter Tryz.func13, Tryz.ntmps13
  go_wp2_with fail
  refine hf.mono ?_
  rintro e w1 ⟨rfl, hl, hk⟩
  have hof := of_ferr (hl.sents.below hl.below) (k.feed sp T name v t).1
  have hr1 := (hk _ _ _ _ HW.out.2.1 (by unfold Calm; decide)).trans HW.out.2.1
  have HL : Hid _ := And.intro hl (And.intro hk hr1)
  clear hf hl hk hr1
  generalize hfe : (k.feed sp T name v t).1 = fe at *
  have HFE : Hid _ := hfe
  clear hfe
  have hsh : fe.at A = .nilIface ∨ ∃ T x, fe.at A = .iface T x := by
    cases fe
    · exact .inl rfl
    · exact .inr ⟨_, _, rfl⟩
    · exact .inr ⟨_, _, rfl⟩
  generalize fe.at A = fv at *
  generalize hfc : fe.e = fc at *
  have HFC : Hid _ := hfc
  clear hfc
  have fin : ∀ w2, Below w1.heap.size w1 w2 → Hid (w2.heap[w.heap.size]? = some (.cells #[.int .i64 0, .int .i64 0, .int .i64 0, .string { data := #[] }] 24 (0, 0)) ∧ ∀ w3, Keep w.heap.size w2 w3 → LiveP F P A w0 wl lo c (k.feed sp T name v t).2.1 u sp (k.feed sp T name v t).2.2 w3 ∧ KeepT w w3) := fun w2 hb => by
    have hr2 := (hb.block _ (heap_lt HL.out.2.2)).trans HL.out.2.2
    refine ⟨hr2, fun w3 hk3 => ⟨(HL.out.1.go hb).set hr2 (by unfold Calm; decide) (Nat.le_trans HW.out.2.2.size.1 HW.out.2.2.le) (.inr HW.out.2.2.le) hk3.x, fun b cs t2 fr h2 ht2 => ?_⟩⟩
    have hb2 := ((KeepT.of_below HW.out.1).trans (HL.out.2.1.trans (KeepT.of_below hb))) b cs t2 fr h2 ht2
    exact (hk3.block b (heap_lt (hb2.trans h2)) (fun e => by have := heap_lt h2; omega)).trans hb2
  have FIN : Hid _ := fin
  clear fin
  rcases hsh with rfl | ⟨T2, x2, rfl⟩
  all_goals
    go_wp2_with fail
    refine hof.mono ?_
    rintro e w2 ⟨rfl, hb⟩
    have H2 := FIN.out w2 hb
    have hr2 := H2.out.1
    have rc0 := cell_of_heap (i := 0) (v := .int .i64 0) hr2 rfl
    have rz0 := frozen_of_heap (i := 0) hr2
    have rc1 := cell_of_heap (i := 1) (v := .int .i64 0) hr2 rfl
    have rz1 := frozen_of_heap (i := 1) hr2
    have rc2 := cell_of_heap (i := 2) (v := .int .i64 0) hr2 rfl
    have rz2 := frozen_of_heap (i := 2) hr2
    have rc3 := cell_of_heap (i := 3) (v := .string { data := #[] }) hr2 rfl
    have rz3 := frozen_of_heap (i := 3) hr2
    clear hof hb hr2
    go_wp2
    refine bodyPost_ret (v := .agg #[.int .i64 fc, .int .i64 0, .int .i64 0, .string { data := #[] }]) (by simp [results, Tryz.results13, go_sem, rc0, rc1, rc2, rc3]) rfl ?_
    refine ⟨by rw [HFE.out, HFC.out], H2.out.2 _ ?_⟩
    iterate 4 (refine Keep.setR ?_ _ _)
    exact Keep.refl _ _
set_option maxRecDepth 1000000 in
set_option maxHeartbeats 1000000 in
theorem plain_Tick (hx : w.heap[x]? = some (.cells #[ptr c] 73 (0, 0))) (h : LiveP F P A w0 wl lo c k u sp T w) {t : Int} (ht : In64 t) :
    Calls Tryz.prog 14 #[ptr x, .int .i64 t] w fun e w' => e = .returned (.agg #[.int .i64 t, .int .i64 (k.decide P u T t).2.1.count, .int .i64 0, .int .i64 0, .int .i64 (k.decide P u T t).1.e, .int .i64 (k.decide P u T t).1.p, .int .i64 (k.decide P u T t).1.m, .string { data := #[] }]) ∧ LiveP F P A w0 wl lo c (k.decide P u T t).2.1 u sp (k.decide P u T t).2.2 w' ∧ KeepT w w' := by
  have c0 : w.cell? ⟨x, 0, none⟩ = some (ptr c) := cell_of_heap hx rfl
  have lx := heap_lt hx
  have hw1 : Below w.heap.size w (w.alloc (.cells #[.int .i64 0, .int .i64 0, .int .i64 0, .int .i64 0, .int .i64 0, .int .i64 0, .int .i64 0, .string { data := #[] }] 45)) := (Below.refl _ _).alloc (Nat.le_refl _) _
  have hr1 : (w.alloc (.cells #[.int .i64 0, .int .i64 0, .int .i64 0, .int .i64 0, .int .i64 0, .int .i64 0, .int .i64 0, .string { data := #[] }] 45)).heap[w.heap.size]? = some (.cells #[.int .i64 0, .int .i64 0, .int .i64 0, .int .i64 0, .int .i64 0, .int .i64 0, .int .i64 0, .string { data := #[] }] 45 (0, 0)) := heap_alloc_new _ _
  have hf := live_Tick (h.go hw1) ht
  have HW : Hid _ := And.intro hw1 (And.intro hr1 h)
  clear h hx hw1 hr1
  go_enter Tryz.func14, Tryz.ntmps14
  go_wp2_with fail
  refine hf.mono ?_
  rintro e w1 ⟨v, rfl, hd, hl, hk⟩
  have hof := plain_decision (t := t) (n := (k.decide P u T t).2.1.count) (hl.sents.below hl.below) hd
  have hsh := derr_shape hd
  have hr1 := (hk _ _ _ _ HW.out.2.1 (by unfold Calm; decide)).trans HW.out.2.1
  have HL : Hid _ := And.intro hl (And.intro hk hr1)
  clear hf hl hk hr1 hd
  have fin : ∀ w2, Below w1.heap.size w1 w2 → Hid (w2.heap[w.heap.size]? = some (.cells #[.int .i64 0, .int .i64 0, .int .i64 0, .int .i64 0, .int .i64 0, .int .i64 0, .int .i64 0, .string { data := #[] }] 45 (0, 0)) ∧ ∀ w3, Keep w.heap.size w2 w3 → LiveP F P A w0 wl lo c (k.decide P u T t).2.1 u sp (k.decide P u T t).2.2 w3 ∧ KeepT w w3) := fun w2 hb => by
    have hr2 := (hb.block _ (heap_lt HL.out.2.2)).trans HL.out.2.2
    refine ⟨hr2, fun w3 hk3 => ⟨(HL.out.1.go hb).set hr2 (by unfold Calm; decide) (Nat.le_trans HW.out.2.2.size.1 HW.out.2.2.le) (.inr HW.out.2.2.le) hk3.x, fun b cs t2 fr h2 ht2 => ?_⟩⟩
    have hb2 := ((KeepT.of_below HW.out.1).trans (HL.out.2.1.trans (KeepT.of_below hb))) b cs t2 fr h2 ht2
    exact (hk3.block b (heap_lt (hb2.trans h2)) (fun e => by have := heap_lt h2; omega)).trans hb2
  have FIN : Hid _ := fin
  clear fin
  generalize hdn : (k.decide P u T t).2.1.count = dn at *
  generalize hde : (k.decide P u T t).1.e = de at *
  generalize hdp : (k.decide P u T t).1.p = dp at *
  generalize hdm : (k.decide P u T t).1.m = dm at *
  have HD : Hid _ := And.intro hdn (And.intro hde (And.intro hdp hdm))
  clear hdn hde hdp hdm
  rcases hsh with rfl | ⟨T2, x2, rfl⟩
  all_goals
    go_wp2_with fail
    refine hof.mono ?_
    rintro e w2 ⟨rfl, hb⟩
    have H2 := FIN.out w2 hb
    have hr2 := H2.out.1
    have rc0 := cell_of_heap (i := 0) (v := .int .i64 0) hr2 rfl
    have rz0 := frozen_of_heap (i := 0) hr2
    have rc1 := cell_of_heap (i := 1) (v := .int .i64 0) hr2 rfl
    have rz1 := frozen_of_heap (i := 1) hr2
    have rc2 := cell_of_heap (i := 2) (v := .int .i64 0) hr2 rfl
    have rz2 := frozen_of_heap (i := 2) hr2
    have rc3 := cell_of_heap (i := 3) (v := .int .i64 0) hr2 rfl
    have rz3 := frozen_of_heap (i := 3) hr2
    have rc4 := cell_of_heap (i := 4) (v := .int .i64 0) hr2 rfl
    have rz4 := frozen_of_heap (i := 4) hr2
    have rc5 := cell_of_heap (i := 5) (v := .int .i64 0) hr2 rfl
    have rz5 := frozen_of_heap (i := 5) hr2
    have rc6 := cell_of_heap (i := 6) (v := .int .i64 0) hr2 rfl
    have rz6 := frozen_of_heap (i := 6) hr2
    have rc7 := cell_of_heap (i := 7) (v := .string { data := #[] }) hr2 rfl
    have rz7 := frozen_of_heap (i := 7) hr2
    clear hof hb hr2
    go_wp2
    refine bodyPost_ret (v := .agg #[.int .i64 t, .int .i64 dn, .int .i64 0, .int .i64 0, .int .i64 de, .int .i64 dp, .int .i64 dm, .string { data := #[] }]) (by simp [results, Tryz.results14, go_sem, rc0, rc1, rc2, rc3, rc4, rc5, rc6, rc7]) rfl ?_
    refine ⟨by rw [HD.out.1, HD.out.2.1, HD.out.2.2.1, HD.out.2.2.2], H2.out.2 _ ?_⟩
    iterate 8 (refine Keep.setR ?_ _ _)
    exact Keep.refl _ _
end
end Go.Proofs.YtaghcjpoihkpjaaGreatDoor
namespace Go.Proofs.YtaghcjpoihkpjaaGreatDoor
open Go.RowKit Go.Lib

set_option maxRecDepth 1000000 in
set_option maxHeartbeats 1000000 in
theorem code_there {w : World} {b lb : Nat} {gv : Value} (hb : w.heap[b]? = some (.cells #[ptr lb, gv] 97 (0, 0))) : Calls Tryz.prog 36 #[ptr b] w fun e w' => e = .returned (.bool false) ∧ w' = w := by
  have c0 : w.cell? ⟨b, 0, none⟩ = some (ptr lb) := cell_of_heap hb rfl
  clear hb
  go_enter Tryz.func36, Tryz.ntmps36
  go_wp2
  go_ret
  exact ⟨rfl, rfl⟩
set_option maxRecDepth 1000000 in
set_option maxHeartbeats 1000000 in
theorem code_New_no {A : Nat → Addr} {w : World} (hS : Sents A w) {b lb : Nat} {gv : Value} (hb : w.heap[b]? = some (.cells #[ptr lb, gv] 97 (0, 0))) {min max step up down count : Int} (hno : possibleL min max step up down = false ∨ count < min ∨ max < count) :
    Calls Tryz.prog 52 #[ptr b, .agg #[.int .i64 min, .int .i64 max, .int .i64 step, .int .i64 up, .int .i64 down], .int .i64 count] w fun e w' => e = .returned (.tuple #[.pointer none, .iface 349 (.pointer (some (A 2)))]) ∧ Below w.heap.size w w' := by
  have hB0 : Below w.heap.size w (w.alloc (.cells #[.int .i64 min, .int .i64 max, .int .i64 step, .int .i64 up, .int .i64 down] 117)) := (Below.refl _ _).alloc (Nat.le_refl _) _
  have hem := code_there ((hB0.block b (heap_lt hb)).trans hb)
  have hps := code_possible (w.alloc (.cells #[.int .i64 min, .int .i64 max, .int .i64 step, .int .i64 up, .int .i64 down] 117)) min max step up down
  have g2 := hS.g2
  have HB : Hid _ := And.intro hB0 hS
  clear hB0 hS hb
  go_enter Tryz.func52, Tryz.ntmps52
  go_wp2_with fail
  refine hem.mono ?_
  rintro e w1 ⟨rfl, rfl⟩
  clear hem
  go_wp2_with fail
  refine hps.mono ?_
  rintro e w2 ⟨rfl, hb2⟩
  have d : (w.alloc (.cells #[.int .i64 min, .int .i64 max, .int .i64 step, .int .i64 up, .int .i64 down] 117)).heap[w.heap.size]? = some (.cells #[.int .i64 min, .int .i64 max, .int .i64 step, .int .i64 up, .int .i64 down] 117 (0, 0)) := heap_alloc_new _ _
  have d2 := (hb2.block _ (heap_lt d)).trans d
  have k0 := cell_of_heap (i := 0) (v := .int .i64 min) d2 rfl
  have k1 := cell_of_heap (i := 1) (v := .int .i64 max) d2 rfl
  have hB2 : Below w.heap.size w w2 := ⟨hb2.os.trans HB.out.1.os, hb2.tape.trans HB.out.1.tape, hb2.output.trans HB.out.1.output, Nat.le_trans HB.out.1.size hb2.size, fun k hk => (hb2.block k (Nat.lt_of_lt_of_le hk HB.out.1.size)).trans (HB.out.1.block k hk)⟩
  have g22 := (HB.out.2.below hB2).g2
  have HB2 : Hid _ := hB2
  clear d d2 hb2 hB2 hps
  cases hp : possibleL min max step up down with
  | false =>
    go_wp2_with fail
    go_region
    all_goals
      go_wp2
      go_ret2
      exact ⟨rfl, HB2.out.drew⟩
  | true =>
    rw [hp] at hno
    by_cases hlt : count < min
    · go_wp2_with fail
      go_region
      all_goals
        go_wp2
        go_ret2
        exact ⟨rfl, HB2.out.drew⟩
    · have hgt : max < count := by rcases hno with h | h | h; cases h; exact absurd h hlt; exact h
      go_wp2_with fail
      go_region
      all_goals
        go_wp2
        go_ret2
        exact ⟨rfl, HB2.out.drew⟩
end Go.Proofs.YtaghcjpoihkpjaaGreatDoor
namespace Go.Proofs.YtaghcjpoihkpjaaGreatDoor
open Go.RowKit Go.Lib

/-- A new window. -/
abbrev freshW (R : Nat) : WSt := ⟨R, .slice none 0 0, -9223372036854775808, []⟩
/-- A span comes to the windows. -/
theorem Wins.add {w w5 : World} {m : Nat} {sp : List (ByteArray × Int)} {I I' : ByteArray → Nat} {st : ByteArray → Int → WSt} (h : Wins w m sp I st) {q : ByteArray × Int} {R : Nat} (hI : ∀ r ∈ sp, I' r.1 = I r.1)
    (ho : ∃ F, MapG Value.string w5 m F ∧ ∀ s, ((∃ n, (s, n) ∈ sp ++ [q]) → F s = some (.map (some (I' s)))) ∧ ((∀ n, (s, n) ∉ sp ++ [q]) → F s = none))
    (hi : ∃ G, MapG i64V w5 (I' q.1) G ∧ G q.2 = some (ptr R) ∧ ∀ n, n ≠ q.2 → ((q.1, n) ∈ sp → G n = some (ptr (st q.1 n).blk)) ∧ ((q.1, n) ∉ sp → G n = none))
    (hki : ∀ r ∈ sp, r.1 ≠ q.1 → w5.heap[I r.1]? = w.heap[I r.1]?) (hkw : ∀ r ∈ sp, ∀ b, Mine (st r.1 r.2) b → w5.heap[b]? = w.heap[b]?) (hn : Win.WinI w5 R q.2 (-9223372036854775808) [] (.slice none 0 0)) (hR : w.heap.size ≤ R) :
    Wins w5 m (sp ++ [q]) I' (upd st q (freshW R)) := by
  have hsp : ∀ r : ByteArray × Int, r ∈ sp ++ [q] → r ≠ q → r ∈ sp := fun r hr hne => by
    rcases List.mem_append.1 hr with hr | hr
    · exact hr
    · exact absurd (List.mem_singleton.1 hr) hne
  have lt : ∀ r ∈ sp, ∀ b, Mine (st r.1 r.2) b → b < w.heap.size := fun r hr b hb => by
    obtain ⟨cs, T, e, -⟩ := Win.mine_cells (h.win r hr) hb
    exact heap_lt e
  refine ⟨ho, fun r hr => ?_, fun r hr => ?_, fun r hr => ?_, fun r hr x hx hne => ?_⟩
  · by_cases hs : r.1 = q.1
    · obtain ⟨G, hG, hG1, hG2⟩ := hi
      refine ⟨G, by rw [hs]; exact hG, fun n => ?_⟩
      rw [hs]
      by_cases hnq : n = q.2
      · subst hnq
        refine ⟨fun _ => ?_, fun hx => absurd (List.mem_append_right sp (List.mem_singleton.2 rfl)) hx⟩
        rw [upd_same]
        exact hG1
      · have hne : (q.1, n) ≠ q := fun e => hnq (show (q.1, n).2 = q.2 from congrArg Prod.snd e)
        have hu := upd_other (st := st) (freshW R) hne
        refine ⟨fun hx => ?_, fun hx => (hG2 n hnq).2 fun hy => hx (List.mem_append_left _ hy)⟩
        rw [show upd st q (freshW R) q.1 n = st q.1 n from hu]
        exact (hG2 n hnq).1 (hsp _ hx hne)
    · have hr2 := hsp r hr (fun e => hs (congrArg Prod.fst e))
      obtain ⟨G, hG, hG2⟩ := h.inner r hr2
      refine ⟨G, by rw [hI r hr2]; exact hG.block (hki r hr2 hs), fun n => ?_⟩
      have hne : (r.1, n) ≠ q := fun e => hs (show (r.1, n).1 = q.1 from congrArg Prod.fst e)
      have hu := upd_other (st := st) (freshW R) hne
      refine ⟨fun hx => ?_, fun hx => (hG2 n).2 fun hy => hx (List.mem_append_left _ hy)⟩
      rw [show upd st q (freshW R) r.1 n = st r.1 n from hu]
      exact (hG2 n).1 (hsp _ hx hne)
  · by_cases e : r = q
    · subst e
      rw [upd_same]
      exact hn
    · rw [upd_other _ e]
      have hr2 := hsp r hr e
      exact win_block (h.win r hr2) (hkw r hr2)
  · by_cases e : r = q
    · subst e
      rw [upd_same]
      exact ⟨Nat.zero_le _, trivial, fun x hx => by cases hx⟩
    · rw [upd_other _ e]
      exact h.good r (hsp r hr e)
  · by_cases er : r = q
    · subst er
      have hx2 := hsp x hx (Ne.symm hne)
      rw [upd_same, upd_other _ (Ne.symm hne)]
      refine ⟨fun e => ?_, fun g hg => by cases hg⟩
      have := lt x hx2 _ (.inl rfl)
      have e : R = (st x.1 x.2).blk := e
      omega
    · have hr2 := hsp r hr er
      rw [upd_other _ er]
      by_cases ex : x = q
      · subst ex
        rw [upd_same]
        refine ⟨fun e => ?_, fun g _ hg => by cases hg⟩
        have := lt r hr2 _ (.inl rfl)
        have e : (st r.1 r.2).blk = R := e
        omega
      · rw [upd_other _ ex]
        exact h.apart r hr2 x (hsp x hx ex) hne
theorem spanCells_get : ∀ (l : List (ByteArray × Int)) (i : Nat) (x : ByteArray × Int), l[i]? = some x → (spanCells l)[i * 2]? = some (.string x.1) ∧ (spanCells l)[i * 2 + 1]? = some (.int .i64 x.2)
  | [], i, x, h => by simp at h
  | a :: l, 0, x, h => by simp at h; subst h; simp [spanCells]
  | a :: l, i + 1, x, h => by
    have ih := spanCells_get l i x (by simpa using h)
    have e : spanCells (a :: l) = .string a.1 :: .int .i64 a.2 :: spanCells l := by simp [spanCells]
    rw [e, show (i + 1) * 2 = i * 2 + 1 + 1 by omega]
    simpa using ih
theorem span_at {w : World} {base n : Nat} {ao : Option Addr} {m cp : Nat} {qs : List (ByteArray × Int)} (h : w.ownsRow base 257 2 (.slice ao m cp) n (spanCells qs)) {i : Nat} {x : ByteArray × Int} (hi : qs[i]? = some x) : ∃ g, ao = some ⟨g, 0, none⟩ ∧ w.cell? ⟨g, i * 2, none⟩ = some (.string x.1) ∧ w.cell? ⟨g, i * 2 + 1, none⟩ = some (.int .i64 x.2) := by
  have q := spanCells_get qs i x hi
  rcases h.2 with ⟨h1, rfl⟩ | ⟨g, cap, cur, h1, -⟩
  · have : spanCells qs = [] := List.eq_nil_of_length_eq_zero (by have := h.1; omega)
    rw [this] at q
    simp at q
  · injection h1 with h1 h2 h3
    subst h1
    have ha : ∀ j, (⟨g, 0, none⟩ : Addr).add j = ⟨g, j, none⟩ := fun j => by unfold Addr.add; split <;> simp_all
    have c1 := h.cells (g := g) rfl _ _ q.1
    have c2 := h.cells (g := g) rfl _ _ q.2
    rw [ha] at c1 c2
    exact ⟨g, rfl, c1, c2⟩
/-- 'm[k] = v' at the operation. -/
theorem wpList_mapUpdate_G {κ : Type} [DecidableEq κ] {kv : κ → Value} {d : TypeDesc} (hd : ∀ a, MapKept.IsKey d (kv a)) (kinj : ∀ a b, kv a = kv b → a = b) {T kt et : TypeId} (hT : Tryz.prog.underlying T = some (.map kt et)) (hkt : Tryz.prog.underlying kt = some d) (w : World) {ops : Array Oper} {rest : List Oper} {o : Oper} {a : Act} {Q : Exit → Act → World → Prop}
    (hg : o.guard = none) (m x v : Operand) (hop : o.op = Op.mapUpdate T m x v) (b : Nat) (F : κ → Option Value) (s : κ) (val : Value)
    (hm : a.eval m = .map (some b)) (h : MapG kv w b F) (hx : a.eval x = kv s) (hv : a.eval v = val)
    (hK : ∀ w', MapG kv w' b (fun t => if t = s then some val else F t) → w.grownBy w' (some b) → wpList Tryz.prog ops Q rest (a.put o.dst undef) w') :
    wpList Tryz.prog ops Q (o :: rest) a w := by
  refine wpList_plain hg fun K' hK' => ?_
  obtain ⟨w', hrun, r1, r2⟩ := h.update hd kinj hT hkt s val
  unfold Oper.wp
  simp [execOp, hop, hm, hx, hv, hrun, Result.andThen]
  exact hK' _ _ (hK w' r1 r2)
/-- What stands of the windows so far. -/
structure Over (w wr : World) (sp : List (ByteArray × Int)) (I : ByteArray → Nat) (st : ByteArray → Int → WSt) : Prop where
  below : Below w.heap.size w wr
  wins : Wins wr w.heap.size sp I st
  new : ∀ q ∈ sp, w.heap.size < I q.1 ∧ st q.1 q.2 = freshW (st q.1 q.2).blk ∧ w.heap.size < (st q.1 q.2).blk
  apart : ∀ q ∈ sp, ∀ r ∈ sp, q.1 ≠ r.1 → I q.1 ≠ I r.1
end Go.Proofs.YtaghcjpoihkpjaaGreatDoor
