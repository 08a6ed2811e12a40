/-
  scalerkeep.begins, WALKED.
-/
import Derived.Test.YtaghcjpoihkpjaaGreatDoorJM48
namespace Go.Proofs.YtaghcjpoihkpjaaGreatDoor
open Go.RowKit Go.Lib

/-- The document's example begins. -/
theorem exa_new {A : Nat → Addr} {w1 : World} (hT : TabsR w1) (hA : SentsX A w1) (bp bt : Bool) (be : Int) : Calls Tryz.prog 24 #[.string ⟨#[108, 97, 115, 116, 40, 110, 44, 49, 48, 41]⟩, .slice (some ⟨w1.heap.size + 1, 0, none⟩) 5 5, .int .i64 4, .bool true] ((w1.alloc (.cells #[.bool bp, .bool bt, .int .i64 be, .int .i64 0, .int .i64 0, .string { data := #[] }] 68)).alloc (.cells #[.int .i64 1, .int .i64 9, .int .i64 2, .int .i64 3, .int .i64 5] 2)) fun e w' => ∃ x c wl lo, e = .returned (.tuple #[ptr x, begV true true 0]) ∧ w'.heap[x]? = some (.cells #[ptr c] 73 (0, 0)) ∧ Live A ((w1.alloc (.cells #[.bool bp, .bool bt, .int .i64 be, .int .i64 0, .int .i64 0, .string { data := #[] }] 68)).alloc (.cells #[.int .i64 1, .int .i64 9, .int .i64 2, .int .i64 3, .int .i64 5] 2)) wl lo c (ctlL lExa 4) (.meas 0 wLast wN 10) [(wN, 10)] freshT w' := by
  have hb : Below w1.heap.size w1 ((w1.alloc (.cells #[.bool bp, .bool bt, .int .i64 be, .int .i64 0, .int .i64 0, .string { data := #[] }] 68)).alloc (.cells #[.int .i64 1, .int .i64 9, .int .i64 2, .int .i64 3, .int .i64 5] 2)) := ((Below.refl _ _).alloc (Nat.le_refl _) _).alloc (by simp) _
  have hg : ((w1.alloc (.cells #[.bool bp, .bool bt, .int .i64 be, .int .i64 0, .int .i64 0, .string { data := #[] }] 68)).alloc (.cells #[.int .i64 1, .int .i64 9, .int .i64 2, .int .i64 3, .int .i64 5] 2)).heap[w1.heap.size + 1]? = some (.cells #[.int .i64 1, .int .i64 9, .int .i64 2, .int .i64 3, .int .i64 5] 2 (0, 0)) := by
    have := heap_alloc_new (w1.alloc (.cells #[.bool bp, .bool bt, .int .i64 be, .int .i64 0, .int .i64 0, .string { data := #[] }] 68)) (.cells #[.int .i64 1, .int .i64 9, .int .i64 2, .int .i64 3, .int .i64 5] 2)
    simpa using this
  have hL : NumsAt ((w1.alloc (.cells #[.bool bp, .bool bt, .int .i64 be, .int .i64 0, .int .i64 0, .string { data := #[] }] 68)).alloc (.cells #[.int .i64 1, .int .i64 9, .int .i64 2, .int .i64 3, .int .i64 5] 2)) (some ⟨w1.heap.size + 1, 0, none⟩) lExa := fun j v hv => by
    refine ⟨_, _, rfl, ?_⟩
    rw [Nat.zero_add]
    match j, hv with
    | 0, hv => injection hv with hv; subst hv; exact cell_of_heap hg rfl
    | 1, hv => injection hv with hv; subst hv; exact cell_of_heap hg rfl
    | 2, hv => injection hv with hv; subst hv; exact cell_of_heap hg rfl
    | 3, hv => injection hv with hv; subst hv; exact cell_of_heap hg rfl
    | 4, hv => injection hv with hv; subst hv; exact cell_of_heap hg rfl
    | n + 5, hv => simp at hv
  refine (plain_NewController sExa (hT.below hb) (hA.below hb) hL (by intro v hv; unfold In64; simp at hv; omega) (cp := 5) (count := 4)).mono ?_
  rintro e w' ⟨t, f, q, hp, -, hbeg⟩
  have q := hp.det prel_exa
  injection q with q
  subst q
  rcases hbeg with ⟨h | ⟨u, h, h2⟩, -⟩ | ⟨u, h, -, h2, -⟩ | ⟨u, h, -, -, x, c, wl, lo, rfl, hx, hlv⟩
  · cases h
  · injection h with h
    subst h
    exact absurd exa_asks h2
  · rw [exa_ok] at h2
    cases h2
  · injection h with h
    subst h
    rw [exa_bare, exa_spans] at hlv
    exact ⟨x, c, wl, lo, rfl, hx, hlv⟩
/-- It is fed. -/
theorem exa_fed {A : Nat → Addr} {w0 wl w : World} {lo c x : Nat} (hx : w.heap[x]? = some (.cells #[ptr c] 73 (0, 0))) (h : Live A w0 wl lo c (ctlL lExa 4) (.meas 0 wLast wN 10) [(wN, 10)] freshT w) : Calls Tryz.prog 13 #[ptr x, .string ⟨#[110]⟩, .int .i64 9, .int .i64 0] w fun e w' => e = .returned (.agg #[.int .i64 0, .int .i64 0, .int .i64 0, .string { data := #[] }]) ∧ w'.heap[x]? = some (.cells #[ptr c] 73 (0, 0)) ∧ Live A w0 wl lo c ((ctlL lExa 4).feed [(wN, 10)] freshT wN 9 0).2.1 (.meas 0 wLast wN 10) [(wN, 10)] ((ctlL lExa 4).feed [(wN, 10)] freshT wN 9 0).2.2 w' := by
  refine (plain_Feed hx h wN (v := 9) (t := 0) (by unfold In64; omega) (by unfold In64; omega)).mono ?_
  rintro e w' ⟨rfl, h1, h2⟩
  refine ⟨?_, (h2 _ _ _ _ hx (by unfold Calm; decide)).trans hx, h1⟩
  rw [exa_feed]
  rfl
/-- It decides. -/
theorem exa_ticked {A : Nat → Addr} {w0 wl w : World} {lo c x : Nat} (hx : w.heap[x]? = some (.cells #[ptr c] 73 (0, 0))) (h : Live A w0 wl lo c ((ctlL lExa 4).feed [(wN, 10)] freshT wN 9 0).2.1 (.meas 0 wLast wN 10) [(wN, 10)] ((ctlL lExa 4).feed [(wN, 10)] freshT wN 9 0).2.2 w) : Calls Tryz.prog 14 #[ptr x, .int .i64 0] w fun e w' => e = .returned (.agg #[.int .i64 0, .int .i64 6, .int .i64 0, .int .i64 0, .int .i64 0, .int .i64 0, .int .i64 0, .string { data := #[] }]) ∧ Below w0.heap.size w0 w' ∧ KeepT w w' := by
  refine (plain_Tick hx h (t := 0) (by unfold In64; omega)).mono ?_
  rintro e w' ⟨rfl, h1, h2⟩
  refine ⟨?_, h1.below, h2⟩
  rw [exa_tick, exa_count]
  rfl
set_option maxRecDepth 1000000 in
set_option maxHeartbeats 2000000 in
theorem keep_begins (s : ByteArray) {A : Nat → Addr} {w : World} (hT : TabsR w) (hA : SentsX A w) {ao : Option Addr} {cp : Nat} {L : List Int} {count : Int} (hL : NumsAt w ao L) (hl : ∀ v ∈ L, In64 v) :
    Calls Tryz.prog 12 #[.string s, .slice ao L.length cp, .int .i64 count] w fun e w' => Below w.heap.size w w' ∧ (e = .returned (.tuple #[.pointer none, .bool true]) ∨
      ∃ u x c w0 wl lo, okL L count = true ∧ Below w.heap.size w w0 ∧ e = .returned (.tuple #[ptr x, .bool true]) ∧ w'.heap[x]? = some (.cells #[ptr c] 73 (0, 0)) ∧ Live A w0 wl lo c (ctlL L count) (bare u) (spansOf u) freshT w') := by
  have hn := plain_NewController s hT hA hL hl (cp := cp) (count := count)
  have HX : Hid _ := And.intro hT (And.intro hA hL)
  clear hT hA hL
  go_enter Tryz.func12, Tryz.ntmps12
  go_wp2_with fail
  refine hn.mono ?_
  rintro e w1 ⟨t, f, q, -, hb1, hbeg⟩
  rcases hbeg with ⟨-, rfl⟩ | ⟨u, -, -, -, rfl⟩ | ⟨u, -, -, hok, x, c, wl, lo, rfl, hx, hlv⟩
  · have hd := exa_new (HX.out.1.below hb1) (HX.out.2.1.below hb1) false false 0
    have hW1 : Below w1.heap.size w1 ((w1.alloc (.cells #[.bool false, .bool false, .int .i64 0, .int .i64 0, .int .i64 0, .string { data := #[] }] 68)).alloc (.cells #[.int .i64 1, .int .i64 9, .int .i64 2, .int .i64 3, .int .i64 5] 2)) := ((Below.refl _ _).alloc (Nat.le_refl _) _).alloc (by simp) _
    have hbb : ((w1.alloc (.cells #[.bool false, .bool false, .int .i64 0, .int .i64 0, .int .i64 0, .string { data := #[] }] 68)).alloc (.cells #[.int .i64 1, .int .i64 9, .int .i64 2, .int .i64 3, .int .i64 5] 2)).heap[w1.heap.size]? = some (.cells #[.bool false, .bool false, .int .i64 0, .int .i64 0, .int .i64 0, .string { data := #[] }] 68 (0, 0)) := heap_alloc_old (heap_alloc_new _ _)
    have H1 : Hid _ := And.intro hb1 (And.intro hW1 hbb)

    clear hn hb1 hW1 hbb
    go_wp2_with fail
    refine hd.mono ?_
    rintro e w2 ⟨xd, cd, wd, ld, rfl, hxd, hld⟩
    have hfd := exa_fed (w := w2.alloc (.cells #[.bool true, .bool true, .int .i64 0, .int .i64 0, .int .i64 0, .string { data := #[] }] 68)) ((Below.heap_alloc _ _ _ (heap_lt hxd)).trans hxd) (hld.go ((Below.refl _ _).alloc (Nat.le_refl _) _))
    have H2 : Hid _ := And.intro hxd hld
    clear hd hxd hld
    go_wp2_with fail
    refine hfd.mono ?_
    rintro e w3 ⟨rfl, hx3, hl3⟩
    have htd := exa_ticked (w := w3.alloc (.cells #[.int .i64 0, .int .i64 0, .int .i64 0, .string { data := #[] }] 24)) ((Below.heap_alloc _ _ _ (heap_lt hx3)).trans hx3) (hl3.go ((Below.refl _ _).alloc (Nat.le_refl _) _))
    clear hfd hx3 hl3
    go_wp2_with fail
    refine htd.mono ?_
    rintro e w4 ⟨rfl, hb4, hk4⟩
    have hf4 := (hk4 _ _ _ _ (heap_alloc_new w3 (.cells #[.int .i64 0, .int .i64 0, .int .i64 0, .string { data := #[] }] 24)) (by unfold Calm; decide)).trans (heap_alloc_new _ _)
    have y0 := cell_of_heap (i := 0) (v := .int .i64 0) hf4 rfl
    have ly := heap_lt hf4
    have hb0 := (hb4.block _ (heap_lt H1.out.2.2)).trans H1.out.2.2
    have z0 := cell_of_heap (i := 0) (v := .bool false) hb0 rfl
    have z1 := cell_of_heap (i := 1) (v := .bool false) hb0 rfl
    have z2 := cell_of_heap (i := 2) (v := .int .i64 0) hb0 rfl
    have lz := heap_lt hb0
    have H4 : Hid _ := And.intro hb4 hb0
    clear htd hb4 hb0 hk4 hf4
    go_wp2_with fail
    go_quiet (fail)
    go_wp2
    go_ret2
    have B4 : Below w.heap.size w w4 := H1.out.1.trans ((H1.out.2.1.trans (H4.out.1.mono H1.out.2.1.size)).mono H1.out.1.size)
    exact ⟨below_drewN (B4.alloc B4.size _) _, .inl rfl⟩
  · have hd := exa_new (HX.out.1.below hb1) (HX.out.2.1.below hb1) true false 5
    have hW1 : Below w1.heap.size w1 ((w1.alloc (.cells #[.bool true, .bool false, .int .i64 5, .int .i64 0, .int .i64 0, .string { data := #[] }] 68)).alloc (.cells #[.int .i64 1, .int .i64 9, .int .i64 2, .int .i64 3, .int .i64 5] 2)) := ((Below.refl _ _).alloc (Nat.le_refl _) _).alloc (by simp) _
    have hbb : ((w1.alloc (.cells #[.bool true, .bool false, .int .i64 5, .int .i64 0, .int .i64 0, .string { data := #[] }] 68)).alloc (.cells #[.int .i64 1, .int .i64 9, .int .i64 2, .int .i64 3, .int .i64 5] 2)).heap[w1.heap.size]? = some (.cells #[.bool true, .bool false, .int .i64 5, .int .i64 0, .int .i64 0, .string { data := #[] }] 68 (0, 0)) := heap_alloc_old (heap_alloc_new _ _)
    have H1 : Hid _ := And.intro hb1 (And.intro hW1 hbb)

    clear hn hb1 hW1 hbb
    go_wp2_with fail
    refine hd.mono ?_
    rintro e w2 ⟨xd, cd, wd, ld, rfl, hxd, hld⟩
    have hfd := exa_fed (w := w2.alloc (.cells #[.bool true, .bool true, .int .i64 0, .int .i64 0, .int .i64 0, .string { data := #[] }] 68)) ((Below.heap_alloc _ _ _ (heap_lt hxd)).trans hxd) (hld.go ((Below.refl _ _).alloc (Nat.le_refl _) _))
    have H2 : Hid _ := And.intro hxd hld
    clear hd hxd hld
    go_wp2_with fail
    refine hfd.mono ?_
    rintro e w3 ⟨rfl, hx3, hl3⟩
    have htd := exa_ticked (w := w3.alloc (.cells #[.int .i64 0, .int .i64 0, .int .i64 0, .string { data := #[] }] 24)) ((Below.heap_alloc _ _ _ (heap_lt hx3)).trans hx3) (hl3.go ((Below.refl _ _).alloc (Nat.le_refl _) _))
    clear hfd hx3 hl3
    go_wp2_with fail
    refine htd.mono ?_
    rintro e w4 ⟨rfl, hb4, hk4⟩
    have hf4 := (hk4 _ _ _ _ (heap_alloc_new w3 (.cells #[.int .i64 0, .int .i64 0, .int .i64 0, .string { data := #[] }] 24)) (by unfold Calm; decide)).trans (heap_alloc_new _ _)
    have y0 := cell_of_heap (i := 0) (v := .int .i64 0) hf4 rfl
    have ly := heap_lt hf4
    have hb0 := (hb4.block _ (heap_lt H1.out.2.2)).trans H1.out.2.2
    have z0 := cell_of_heap (i := 0) (v := .bool true) hb0 rfl
    have z1 := cell_of_heap (i := 1) (v := .bool false) hb0 rfl
    have z2 := cell_of_heap (i := 2) (v := .int .i64 5) hb0 rfl
    have lz := heap_lt hb0
    have H4 : Hid _ := And.intro hb4 hb0
    clear htd hb4 hb0 hk4 hf4
    go_wp2_with fail
    go_quiet (fail)
    go_wp2
    go_ret2
    have B4 : Below w.heap.size w w4 := H1.out.1.trans ((H1.out.2.1.trans (H4.out.1.mono H1.out.2.1.size)).mono H1.out.1.size)
    exact ⟨below_drewN (B4.alloc B4.size _) _, .inl rfl⟩
  · have hd := exa_new (HX.out.1.below hb1) (HX.out.2.1.below hb1) true true 0
    have hW1 : Below w1.heap.size w1 ((w1.alloc (.cells #[.bool true, .bool true, .int .i64 0, .int .i64 0, .int .i64 0, .string { data := #[] }] 68)).alloc (.cells #[.int .i64 1, .int .i64 9, .int .i64 2, .int .i64 3, .int .i64 5] 2)) := ((Below.refl _ _).alloc (Nat.le_refl _) _).alloc (by simp) _
    have hbb : ((w1.alloc (.cells #[.bool true, .bool true, .int .i64 0, .int .i64 0, .int .i64 0, .string { data := #[] }] 68)).alloc (.cells #[.int .i64 1, .int .i64 9, .int .i64 2, .int .i64 3, .int .i64 5] 2)).heap[w1.heap.size]? = some (.cells #[.bool true, .bool true, .int .i64 0, .int .i64 0, .int .i64 0, .string { data := #[] }] 68 (0, 0)) := heap_alloc_old (heap_alloc_new _ _)
    have H1 : Hid _ := And.intro hb1 (And.intro hW1 hbb)

    have H0 : Hid _ := And.intro hok (And.intro hx hlv)
    clear hn hb1 hW1 hbb hok hx hlv
    go_wp2_with fail
    refine hd.mono ?_
    rintro e w2 ⟨xd, cd, wd, ld, rfl, hxd, hld⟩
    have hfd := exa_fed (w := w2.alloc (.cells #[.bool true, .bool true, .int .i64 0, .int .i64 0, .int .i64 0, .string { data := #[] }] 68)) ((Below.heap_alloc _ _ _ (heap_lt hxd)).trans hxd) (hld.go ((Below.refl _ _).alloc (Nat.le_refl _) _))
    have H2 : Hid _ := And.intro hxd hld
    clear hd hxd hld
    go_wp2_with fail
    refine hfd.mono ?_
    rintro e w3 ⟨rfl, hx3, hl3⟩
    have htd := exa_ticked (w := w3.alloc (.cells #[.int .i64 0, .int .i64 0, .int .i64 0, .string { data := #[] }] 24)) ((Below.heap_alloc _ _ _ (heap_lt hx3)).trans hx3) (hl3.go ((Below.refl _ _).alloc (Nat.le_refl _) _))
    clear hfd hx3 hl3
    go_wp2_with fail
    refine htd.mono ?_
    rintro e w4 ⟨rfl, hb4, hk4⟩
    have hf4 := (hk4 _ _ _ _ (heap_alloc_new w3 (.cells #[.int .i64 0, .int .i64 0, .int .i64 0, .string { data := #[] }] 24)) (by unfold Calm; decide)).trans (heap_alloc_new _ _)
    have y0 := cell_of_heap (i := 0) (v := .int .i64 0) hf4 rfl
    have ly := heap_lt hf4
    have hb0 := (hb4.block _ (heap_lt H1.out.2.2)).trans H1.out.2.2
    have z0 := cell_of_heap (i := 0) (v := .bool true) hb0 rfl
    have z1 := cell_of_heap (i := 1) (v := .bool true) hb0 rfl
    have z2 := cell_of_heap (i := 2) (v := .int .i64 0) hb0 rfl
    have lz := heap_lt hb0
    have H4 : Hid _ := And.intro hb4 hb0
    clear htd hb4 hb0 hk4 hf4
    go_wp2_with fail
    go_quiet (fail)
    go_wp2
    go_ret2
    have B4 : Below w.heap.size w w4 := H1.out.1.trans ((H1.out.2.1.trans (H4.out.1.mono H1.out.2.1.size)).mono H1.out.1.size)
    have B14 : Below w1.heap.size w1 w4 := H1.out.2.1.trans (H4.out.1.mono H1.out.2.1.size)
    have B15 := (B14.alloc B14.size (.cells #[.int .i64 0, .int .i64 6, .int .i64 0, .int .i64 0, .int .i64 0, .int .i64 0, .int .i64 0, .string { data := #[] }] 45))
    exact ⟨below_drewN (B4.alloc B4.size _) _, .inr ⟨u, x, c, w, wl, lo, H0.out.1, Below.refl _ _, rfl, ((below_drewN B15 _).block x (heap_lt H0.out.2.1)).trans H0.out.2.1, H0.out.2.2.go (below_drewN B15 _)⟩⟩
end Go.Proofs.YtaghcjpoihkpjaaGreatDoor
namespace Go.Proofs.YtaghcjpoihkpjaaGreatDoor
open Go.RowKit Go.Lib

/-- The law's controller. -/
structure LawI (A : Nat → Addr) (w0 wl : World) (lo c x : Nat) (u : Tree) (sp : List (ByteArray × Int)) (L : List Int) (k : Ctl) (T : WT) (w : World) : Prop where
  live : Live A w0 wl lo c k u sp T w
  blk : w.heap[x]? = some (.cells #[ptr c] 73 (0, 0))
  lim : k.min = L.getD 0 0 ∧ k.max = L.getD 1 0 ∧ k.step = L.getD 2 0 ∧ k.up = L.getD 3 0 ∧ k.down = L.getD 4 0
section
variable {A : Nat → Addr} {w0 wl : World} {lo c x : Nat} {u : Tree} {sp : List (ByteArray × Int)} {L : List Int} {k : Ctl} {T : WT} {w : World}
theorem LawI.go (h : LawI A w0 wl lo c x u sp L k T w) {w' : World} (hb : Below w.heap.size w w') : LawI A w0 wl lo c x u sp L k T w' := ⟨h.live.go hb, (hb.block x (heap_lt h.blk)).trans h.blk, h.lim⟩
theorem ferr_e {d : FErr} : (d.e = 6 ↔ d = .stale) ∧ (d.e = 0 ↔ d = .fine) := by
  cases d <;> simp [FErr.e]
theorem derr_e {d : DErr} : (d.e = 6 ↔ d = .stale) ∧ (d = .fine → d.e = 0) := by
  cases d with
  | fine => simp [DErr.e]
  | stale => simp [DErr.e]
  | cooling => simp [DErr.e]
  | held p y => cases y <;> simp [DErr.e, whyE]
theorem law_feed (h : LawI A w0 wl lo c x u sp L k T w) (name : ByteArray) {v t : Int} (hv : In64 v) (ht : In64 t) :
    Calls Tryz.prog 13 #[ptr x, .string name, .int .i64 v, .int .i64 t] w fun e w' => ∃ e0 k' T', e = .returned (.agg #[.int .i64 e0, .int .i64 0, .int .i64 0, .string { data := #[] }]) ∧ LawI A w0 wl lo c x u sp L k' T' w' ∧ KeepT w w' ∧
      ((t < k.time ∧ e0 = 6 ∧ k'.time = k.time) ∨ (¬ t < k.time ∧ e0 = 0 ∧ k'.time = t) ∨ (¬ t < k.time ∧ e0 = 7 ∧ k'.time = k.time)) ∧ k'.count = k.count ∧ k'.changed = k.changed ∧ k'.change = k.change := by
  refine (plain_Feed h.blk h.live name hv ht).mono ?_
  rintro e w' ⟨rfl, h1, h2⟩
  obtain ⟨m1, -, m3, m4, -⟩ := feed_moved h.live.ok h.live.times name hv ht
  refine ⟨_, _, _, rfl, ⟨h1, (h2 _ _ _ _ h.blk (by unfold Calm; decide)).trans h.blk, ?_⟩, h2, ?_, ?_⟩
  · rw [m1]
    exact h.lim
  · generalize (k.feed sp T name v t).2.1.time = tm at m4
    generalize (k.feed sp T name v t).1 = d at m3 m4
    cases d with
    | fine =>
      rcases m4 with ⟨-, m4⟩ | ⟨m4, -⟩
      · exact .inr (.inl ⟨fun q => (by have := m3.2 q; cases this), rfl, m4⟩)
      · exact absurd rfl m4
    | stale =>
      rcases m4 with ⟨m4, -⟩ | ⟨-, m4⟩
      · cases m4
      · exact .inl ⟨m3.1 rfl, rfl, m4⟩
    | metric =>
      rcases m4 with ⟨m4, -⟩ | ⟨-, m4⟩
      · cases m4
      · exact .inr (.inr ⟨fun q => (by have := m3.2 q; cases this), rfl, m4⟩)
  · rw [m1]
    exact ⟨rfl, rfl, rfl⟩
theorem law_tick (h : LawI A w0 wl lo c x u sp L k T w) {t : Int} (ht : In64 t) :
    Calls Tryz.prog 14 #[ptr x, .int .i64 t] w fun e w' => ∃ n e0 p m k' T', e = .returned (.agg #[.int .i64 t, .int .i64 n, .int .i64 0, .int .i64 0, .int .i64 e0, .int .i64 p, .int .i64 m, .string { data := #[] }]) ∧ LawI A w0 wl lo c x u sp L k' T' w' ∧ KeepT w w' ∧ n = k'.count ∧
      ((t < k.time ∧ e0 = 6 ∧ k'.time = k.time ∧ n = k.count ∧ k'.changed = k.changed ∧ k'.change = k.change) ∨
       (¬ t < k.time ∧ e0 ≠ 6 ∧ k'.time = t ∧ n = k.count ∧ k'.changed = k.changed ∧ k'.change = k.change) ∨
       (¬ t < k.time ∧ e0 = 0 ∧ k'.time = t ∧ n ≠ k.count ∧ L.getD 0 0 ≤ n ∧ n ≤ L.getD 1 0 ∧ n - k.count ≤ L.getD 2 0 ∧ k.count - n ≤ L.getD 2 0 ∧ (k.changed = true → k.change + (if n < k.count then L.getD 4 0 else L.getD 3 0) ≤ t) ∧ k'.changed = true ∧ k'.change = t)) := by
  refine (plain_Tick h.blk h.live ht).mono ?_
  rintro e w' ⟨rfl, h1, h2⟩
  obtain ⟨m1, -, m3, m4, -⟩ := decide_moved h.live.ok probeT (fun _ _ _ => rfl) u h.live.times ht
  obtain ⟨l0, l1, l2, l3, l4⟩ := h.lim
  refine ⟨_, _, _, _, _, _, rfl, ⟨h1, (h2 _ _ _ _ h.blk (by unfold Calm; decide)).trans h.blk, ?_⟩, h2, rfl, ?_⟩
  · obtain ⟨q0, q1, q2, q3, q4⟩ := m1.lim
    exact ⟨q0.trans l0, q1.trans l1, q2.trans l2, q3.trans l3, q4.trans l4⟩
  · have hh := m1.how
    generalize (k.decide probeT u T t).2.1 = k' at m4 hh ⊢
    generalize (k.decide probeT u T t).1 = d at m3 hh ⊢
    by_cases hlt : t < k.time
    · rw [if_pos hlt] at m4
      have hd := m3.2 hlt
      subst hd
      rcases hh with ⟨a, b, c⟩ | ⟨a, -⟩
      · exact .inl ⟨hlt, rfl, m4, a, b, c⟩
      · cases a
    · rw [if_neg hlt] at m4
      have hd : d ≠ .stale := fun q => hlt (m3.1 q)
      rcases hh with ⟨a, b, c⟩ | ⟨a, b1, b2, b3, b4, b5, b6, b7, b8⟩
      · exact .inr (.inl ⟨hlt, fun q => hd (derr_e.1.1 q), m4, a, b, c⟩)
      · rw [l0] at b2
        rw [l1] at b3
        rw [l2] at b4 b5
        rw [l3, l4] at b6
        exact .inr (.inr ⟨hlt, derr_e.2 a, m4, b1, b2, b3, b4, b5, b6, b7, b8⟩)
end
end Go.Proofs.YtaghcjpoihkpjaaGreatDoor
namespace Go.Proofs.YtaghcjpoihkpjaaGreatDoor
open Go.RowKit Go.Lib

/-- A script of events behind a slice. -/
def EvsAt (w : World) (bo : Option Addr) (E : List (Bool × Int × Int)) : Prop := ∀ (i : Nat) (q : Bool × Int × Int), E[i]? = some q → In64 q.2.1 ∧ In64 q.2.2 ∧ ∃ C off, bo = some ⟨C, off, none⟩ ∧ w.cell? ⟨C, off + i * 3, none⟩ = some (.bool q.1) ∧ w.cell? ⟨C, off + i * 3 + 1, none⟩ = some (.int .i64 q.2.1) ∧ w.cell? ⟨C, off + i * 3 + 2, none⟩ = some (.int .i64 q.2.2)
theorem num_at {w : World} {ao : Option Addr} {L : List Int} (h : NumsAt w ao L) {j : Nat} (hj : j < L.length) : ∃ C off, ao = some ⟨C, off, none⟩ ∧ w.cell? ⟨C, off + j, none⟩ = some (.int .i64 (L.getD j 0)) := by
  have e : L[j]? = some (L.getD j 0) := by rw [List.getElem?_eq_getElem hj, List.getD_eq_getElem?_getD, List.getElem?_eq_getElem hj, Option.getD_some]
  exact h j _ e
theorem nums_five {w : World} {ao : Option Addr} {L : List Int} (h : NumsAt w ao L) (hj : 5 ≤ L.length) : ∃ C off, ao = some ⟨C, off, none⟩ ∧ w.cell? ⟨C, off, none⟩ = some (.int .i64 (L.getD 0 0)) ∧ w.cell? ⟨C, off + 1, none⟩ = some (.int .i64 (L.getD 1 0)) ∧ w.cell? ⟨C, off + 2, none⟩ = some (.int .i64 (L.getD 2 0)) ∧ w.cell? ⟨C, off + 3, none⟩ = some (.int .i64 (L.getD 3 0)) ∧ w.cell? ⟨C, off + 4, none⟩ = some (.int .i64 (L.getD 4 0)) := by
  obtain ⟨C, off, rfl, c0⟩ := num_at h (j := 0) (by omega)
  have get : ∀ j, j < 5 → w.cell? ⟨C, off + j, none⟩ = some (.int .i64 (L.getD j 0)) := fun j hl => by
    obtain ⟨C', off', e, c⟩ := num_at h (j := j) (by omega)
    injection e with e
    injection e with e1 e2
    subst e1 e2
    exact c
  exact ⟨C, off, rfl, c0, get 1 (by omega), get 2 (by omega), get 3 (by omega), get 4 (by omega)⟩
set_option maxRecDepth 1000000 in
set_option maxHeartbeats 4000000 in
theorem law_Lawful (s : ByteArray) {A : Nat → Addr} {w : World} (hT : TabsR w) (hA : SentsX A w) {ao bo : Option Addr} {cp cq : Nat} {L : List Int} {count : Int} {E : List (Bool × Int × Int)} (hL : NumsAt w ao L) (hl : ∀ v ∈ L, In64 v) (hE : EvsAt w bo E) :
    Calls Tryz.prog 6 #[.string s, .slice ao L.length cp, .int .i64 count, .slice bo E.length cq] w fun e w' => e = .returned (.bool true) ∧ Below w.heap.size w w' := by
  have hbg := keep_begins s hT hA hL hl (cp := cp) (count := count)
  have HX : Hid _ := And.intro hL (And.intro hl hE)
  clear hT hA hL hl hE
  by_cases hbig : 1073741824 < (E.length : Int)
  · clear hbg
    go_enter Tryz.func6, Tryz.ntmps6
    go_wp2
    go_ret
    exact ⟨rfl, Below.refl _ _⟩
  · go_enter Tryz.func6, Tryz.ntmps6
    go_wp2_with fail
    refine hbg.mono ?_
    rintro e w1 ⟨hb1, rfl | ⟨u, x, c, w0, wl, lo, hok, hb0, rfl, hx, hlv⟩⟩
    · have H1 : Hid _ := hb1
      clear hbg hb1
      go_wp2
      go_ret
      exact ⟨rfl, H1.out⟩
    · by_cases h5 : (L.length : Int) < 5
      · have H1 : Hid _ := hb1
        clear hbg hb1 hx hlv
        go_wp2
        go_ret
        exact ⟨rfl, H1.out⟩
      · have H1 : Hid _ := And.intro hb1 (And.intro hb0 hok)
        have H0 : Hid (LawI A w0 wl lo c x (bare u) (spansOf u) L (ctlL L count) freshT w1) := ⟨hlv, hx, rfl, rfl, rfl, rfl, rfl⟩
        clear hbg hb1 hx hlv hb0 hok
        go_wp2_with fail
        go_loopw [11, 12, 13, 14, 15] (fun v11 v12 v13 v14 v15 wr => ∃ (i : Nat) (k : Ctl) (T : WT), v15 = .int .i64 i ∧ i ≤ E.length ∧ v11 = .int .i64 k.time ∧ v12 = .int .i64 k.count ∧ v13 = .bool k.changed ∧ v14 = .int .i64 k.change ∧ Hid (LawI A w0 wl lo c x (bare u) (spansOf u) L k T wr)) (fun _ _ _ _ v15 _ => E.length - (intOf v15).toNat)
        case atStart => exact ⟨0, _, _, rfl, Nat.zero_le _, rfl, rfl, rfl, rfl, H0⟩
        case round =>
          obtain ⟨i, k, T, rfl, hi, rfl, rfl, rfl, rfl, HI⟩ := hrel
          rcases Nat.lt_or_ge i E.length with hlt | hge
          · obtain ⟨⟨tk, v, t⟩, hq⟩ : ∃ q, E[i]? = some q := ⟨E[i], List.getElem?_eq_getElem hlt⟩
            obtain ⟨hv, ht, C, off, rfl, c0, c1, c2⟩ := HX.out.2.2 i _ hq
            have hbr : Below w.heap.size w wr := H1.out.2.1.trans (HI.out.live.below.mono H1.out.2.1.size)
            have c0 := cell_up hbr c0
            have c1 := cell_up hbr c1
            have c2 := cell_up hbr c2
            have hlt2 : (i : Int) < E.length := by omega
            have HBR : Hid _ := hbr
            clear hq hbr
            simp only at c0 c1 c2 hv ht
            cases tk with
            | false =>
              have hfd := law_feed (HI.out.go (w' := (wr.alloc (.cells #[.bool false, .int .i64 v, .int .i64 t] 42))) ((Below.refl _ _).alloc (Nat.le_refl _) _)) ⟨#[110]⟩ hv ht
              go_wp2_with fail
              refine hfd.mono ?_
              rintro e w2 ⟨e0, k', T', rfl, hl2, hk2, hcase, q1, q2, q3⟩
              have ho := (hk2 _ _ _ _ (heap_alloc_new wr (.cells #[.bool false, .int .i64 v, .int .i64 t] 42)) (by unfold Calm; decide)).trans (heap_alloc_new _ _)
              have o2 := cell_of_heap (i := 2) (v := .int .i64 t) ho rfl
              have lo2 := heap_lt ho
              have H2 : Hid _ := And.intro hl2 (And.intro q1 (And.intro q2 q3))
              clear hfd hl2 hk2 q1 q2 q3 ho c0 c1 c2
              rcases hcase with ⟨ha, rfl, hb⟩ | ⟨ha, rfl, hb⟩ | ⟨ha, rfl, hb⟩
              all_goals
                have HB : Hid _ := hb
                clear hb
                go_wp2
                go_roundw
                case rel => exact ⟨i + 1, k', T', by go_num, by omega, by rw [HB.out], by rw [H2.out.2.1], by rw [H2.out.2.2.1], by rw [H2.out.2.2.2], H2.out.1.go ((Below.refl _ _).alloc (Nat.le_refl _) _)⟩
                case measure => simp [intOf]; omega
            | true =>
              have htd := law_tick (HI.out.go (w' := (wr.alloc (.cells #[.bool true, .int .i64 v, .int .i64 t] 42))) ((Below.refl _ _).alloc (Nat.le_refl _) _)) ht
              go_wp2_with fail
              refine htd.mono ?_
              rintro e w2 ⟨n, e0, p, m, k', T', rfl, hl2, hk2, hn, hcase⟩
              have ho := (hk2 _ _ _ _ (heap_alloc_new wr (.cells #[.bool true, .int .i64 v, .int .i64 t] 42)) (by unfold Calm; decide)).trans (heap_alloc_new _ _)
              have o2 := cell_of_heap (i := 2) (v := .int .i64 t) ho rfl
              have lo2 := heap_lt ho
              have H2 : Hid _ := hl2
              clear htd hl2 hk2 ho c0 c1 c2
              rcases hcase with ⟨ha, rfl, hb, hcnt, h1, h2⟩ | ⟨ha, he, hb, hcnt, h1, h2⟩ | ⟨ha, rfl, hb, hne, a1, a2, a3, a4, a5, h1, h2⟩
              · subst hcnt
                have H3 : Hid _ := And.intro hb (And.intro hn (And.intro h1 h2))
                clear hb hn h1 h2
                go_wp2
                go_roundw
                case rel => exact ⟨i + 1, k', T', by go_num, by omega, by rw [H3.out.1], by rw [H3.out.2.1], by rw [H3.out.2.2.1], by rw [H3.out.2.2.2], H2.out.go ((Below.refl _ _).alloc (Nat.le_refl _) _)⟩
                case measure => simp [intOf]; omega
              · subst hcnt
                have e6 : (e0 == 6) = false := by simpa using he
                have H3 : Hid _ := And.intro hb (And.intro hn (And.intro h1 h2))
                clear hb hn h1 h2 he
                go_wp2
                go_roundw
                case rel => exact ⟨i + 1, k', T', by go_num, by omega, by rw [H3.out.1], by rw [H3.out.2.1], by rw [H3.out.2.2.1], by rw [H3.out.2.2.2], H2.out.go ((Below.refl _ _).alloc (Nat.le_refl _) _)⟩
                case measure => simp [intOf]; omega
              · have H3 : Hid _ := And.intro hb (And.intro hn (And.intro h1 h2))
                obtain ⟨C2, off2, rfl, g0, g1, g2, g3, g4⟩ := nums_five HX.out.1 (by omega)
                have hb2 : Below w.heap.size w w2 := H1.out.2.1.trans (H2.out.live.below.mono H1.out.2.1.size)
                have g0 := cell_up hb2 g0
                have g1 := cell_up hb2 g1
                have g2 := cell_up hb2 g2
                have g3 := cell_up hb2 g3
                have g4 := cell_up hb2 g4
                have lg := World.block_lt_of_cell? _ _ g0
                simp only at lg
                have kc := HI.out.live.ok.count
                have km := HI.out.live.ok.max
                have ki := HI.out.live.ok.min
                have kch := HI.out.live.ok.change
                have i3 := getD_in HX.out.2.1 3
                have i4 := getD_in HX.out.2.1 4
                have i2 := getD_in HX.out.2.1 2
                obtain ⟨m0, m1, m2, m3, m4⟩ := HI.out.lim
                have p3 := HI.out.live.ok.up
                have p4 := HI.out.live.ok.down
                rw [m0] at kc ki km
                rw [m1] at kc km
                rw [m3] at p3
                rw [m4] at p4
                clear hb hn h1 h2 hb2 m0 m1 m2 m3 m4
                generalize L.getD 0 0 = l0 at *
                generalize L.getD 1 0 = l1 at *
                generalize L.getD 2 0 = l2 at *
                generalize L.getD 3 0 = l3 at *
                generalize L.getD 4 0 = l4 at *
                unfold In64 at ht kch i2
                have nb : (n == k.count) = false := by simpa using hne
                have f1 : IntKind.i64.wrap (n - k.count) = n - k.count := by simp only [IntKind.wrap_i64]; omega
                have f2 : IntKind.i64.wrap (k.count - n) = k.count - n := by simp only [IntKind.wrap_i64]; omega
                have f3 : decide (l2 < n - k.count) = false := by simp; omega
                have f4 : decide (l2 < k.count - n) = false := by simp; omega
                have b0 : 0 < L.length := by omega
                have d0 : (0 : Int) < L.length := by omega
                have b1 : 1 < L.length := by omega
                have d1 : (1 : Int) < L.length := by omega
                have b2 : 2 < L.length := by omega
                have d2 : (2 : Int) < L.length := by omega
                have b3 : 3 < L.length := by omega
                have d3 : (3 : Int) < L.length := by omega
                have b4 : 4 < L.length := by omega
                have d4 : (4 : Int) < L.length := by omega
                cases hch : k.changed with
                | false =>
                  clear a5
                  by_cases hdn : n < k.count
                  all_goals
                    go_wp2_with fail
                    go_quiet (fail)
                    go_wp2
                    go_roundw
                    case rel => exact ⟨i + 1, k', T', by go_num, by omega, by rw [H3.out.1], by rw [H3.out.2.1], by rw [H3.out.2.2.1], by rw [H3.out.2.2.2], H2.out.go (below_drewN ((Below.refl _ _).alloc (Nat.le_refl _) _) _)⟩
                    case measure => simp [intOf]; omega
                | true =>
                  have a5 := a5 hch
                  by_cases hdn : n < k.count
                  · rw [if_pos hdn] at a5
                    have s1 : IntKind.i64.wrap (9223372036854775807 - l4) = 9223372036854775807 - l4 := by simp only [IntKind.wrap_i64]; omega
                    have s2 : decide (9223372036854775807 - l4 < k.change) = false := by simp; omega
                    have s3 : IntKind.i64.wrap (k.change + l4) = k.change + l4 := by simp only [IntKind.wrap_i64]; omega
                    have s4 : decide (t < k.change + l4) = false := by simp; omega
                    go_wp2_with fail
                    go_quiet (fail)
                    go_wp2
                    go_roundw
                    case rel => exact ⟨i + 1, k', T', by go_num, by omega, by rw [H3.out.1], by rw [H3.out.2.1], by rw [H3.out.2.2.1], by rw [H3.out.2.2.2], H2.out.go (below_drewN ((Below.refl _ _).alloc (Nat.le_refl _) _) _)⟩
                    case measure => simp [intOf]; omega
                  · rw [if_neg hdn] at a5
                    have s1 : IntKind.i64.wrap (9223372036854775807 - l3) = 9223372036854775807 - l3 := by simp only [IntKind.wrap_i64]; omega
                    have s2 : decide (9223372036854775807 - l3 < k.change) = false := by simp; omega
                    have s3 : IntKind.i64.wrap (k.change + l3) = k.change + l3 := by simp only [IntKind.wrap_i64]; omega
                    have s4 : decide (t < k.change + l3) = false := by simp; omega
                    go_wp2_with fail
                    go_quiet (fail)
                    go_wp2
                    go_roundw
                    case rel => exact ⟨i + 1, k', T', by go_num, by omega, by rw [H3.out.1], by rw [H3.out.2.1], by rw [H3.out.2.2.1], by rw [H3.out.2.2.2], H2.out.go (below_drewN ((Below.refl _ _).alloc (Nat.le_refl _) _) _)⟩
                    case measure => simp [intOf]; omega
          · have hge2 : ¬ (i : Int) < E.length := by omega
            go_wp2
            go_ret
            exact ⟨rfl, H1.out.2.1.trans (HI.out.live.below.mono H1.out.2.1.size)⟩
end Go.Proofs.YtaghcjpoihkpjaaGreatDoor
