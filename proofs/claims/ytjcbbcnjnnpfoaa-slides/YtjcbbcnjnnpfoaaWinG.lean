/-
  plain's All: the caller's function, WALKED.
-/
import Derived.Test.YtjcbbcnjnnpfoaaWinR
import Derived.Deep.AppendLies
import Derived.Deep.RegionHeld3
namespace Go.Proofs.Ytjcbbcnjnnpfoaa
open Go.RowKit Go.Lib Go.Shelf

theorem infoI64 : (Try.prog.info? 2).map (fun i => (i.zero, i.size, i.bytes)) = some (some (.int .i64 0), 1, 8) := by kernel_rfl
abbrev ints (l : List Int) : List Value := l.map (Value.int .i64)
/-- What the caller's function has collected, in its variables. -/
structure Col (w : World) (rb sb tb vb nb : Nat) (n : Int) (st : Bool) (l : List (Int × Int)) (tv vv : Value) : Prop where
  hr : w.heap[rb]? = some (.cells #[.bool true] 4 (0, 0))
  hs : w.heap[sb]? = some (.cells #[.bool st] 4 (0, 0))
  ht : w.heap[tb]? = some (.cells #[tv] 61 (0, 0))
  hv : w.heap[vb]? = some (.cells #[vv] 61 (0, 0))
  hn : w.heap[nb]? = some (.cells #[.int .i64 n] 3 (0, 0))
  rs : rb ≠ sb
  tvb : tb ≠ vb
  ot : w.ownsRow 0 2 1 tv l.length (ints (l.map (·.1)))
  ov : w.ownsRow 0 2 1 vv l.length (ints (l.map (·.2)))
  ne : ∀ g, tv.ownBlock = some g → vv.ownBlock ≠ some g

theorem news1 {X : World} {b : Nat} {x : Value} (h : X.cell? ⟨b, 0, none⟩ = some x) : ∀ (j : Nat) (u : Value), [x][j]? = some u → X.cell? ((⟨b, 0, none⟩ : Addr).add j) = some u := by
  intro j u hu
  cases j with
  | zero => injection hu with hu; subst hu; exact h
  | succ j => simp at hu
theorem cell_new_at {Y : World} {b : Nat} {x : Value} {T : TypeId} (hb : b = Y.heap.size) : (Y.alloc (.cells #[x] T)).cell? ⟨b, 0, none⟩ = some x := by
  subst hb
  exact cell_of_heap (block_new _ _ _) rfl
theorem cell_drawn {Y : World} {a : Addr} {x : Value} (h : Y.cell? a = some x) : Y.drew.cell? a = some x := h
theorem frozen_past {Y : World} {a : Addr} {o : Obj} (hc : ∃ x, Y.cell? a = some x) (h : Y.frozen? a = false) : (Y.alloc o).drew.frozen? a = false := by
  obtain ⟨x, hc⟩ := hc
  exact (World.frozen?_of_block (w := Y) (w' := Y.alloc o) (Below.heap_alloc Y o a.block (World.block_lt_of_cell? Y a hc))).trans h
theorem frozen_drawn {Y : World} {a : Addr} (h : Y.frozen? a = false) : Y.drew.frozen? a = false := h
theorem frozen_old {Y : World} {a : Addr} {o : Obj} (hc : ∃ x, Y.cell? a = some x) (h : Y.frozen? a = false) : (Y.alloc o).frozen? a = false := by
  obtain ⟨x, hc⟩ := hc
  exact (World.frozen?_of_block (w := Y) (w' := Y.alloc o) (Below.heap_alloc Y o a.block (World.block_lt_of_cell? Y a hc))).trans h
theorem frozen_far {Y Z : World} {a : Addr} {row : Option Nat} (hg : Y.grownBy Z row) (hc : ∃ x, Y.cell? a = some x) (h : Y.frozen? a = false) (hne : row ≠ some a.block) : Z.frozen? a = false := by
  obtain ⟨x, hc⟩ := hc
  exact (World.frozen?_of_block (hg.block a.block (World.block_lt_of_cell? Y a hc) (fun e => hne e.symm))).trans h
theorem cell_far {Y Z : World} {a : Addr} {x : Value} {row : Option Nat} (hg : Y.grownBy Z row) (h : Y.cell? a = some x) (hne : row ≠ some a.block) : Z.cell? a = some x := hg.cell h (fun e => hne e.symm)

theorem below_past {W X : World} {o : Obj} (h : Below W.heap.size W X) : Below W.heap.size W (X.alloc o) := h.alloc h.size o
theorem below_drawn {B : Nat} {W X : World} (h : Below B W X) : Below B W X.drew := ⟨h.os, h.tape, h.output, h.size, h.block⟩
/-- The blocks that collecting may turn. -/
abbrev ColP (rb sb tb vb : Nat) (tv vv : Value) : Nat → Prop := fun b => b = rb ∨ b = sb ∨ b = tb ∨ b = vb ∨ tv.ownBlock = some b ∨ vv.ownBlock = some b
/-- Both lists have grown by one. -/
theorem collected {W XA wa XB wb : World} {rb sb tb vb nb : Nat} {n : Int} {l : List (Int × Int)} {tv vv : Value} {t v : Int} {ga ca gb cb HA HB m : Nat} (h : Col W rb sb tb vb nb n false l tv vv) (hm : l.length = m)
    (bA : Below W.heap.size W XA) (gA : XA.grownBy wa tv.ownBlock) (oA : wa.ownsRow 0 2 1 (.slice (some ⟨ga, 0, none⟩) (m + 1) ca) (m + 1) (ints (l.map (·.1)) ++ [.int .i64 t])) (aA : tv.ownBlock = some ga ∨ ga = HA) (lA : ga < wa.heap.size) (hA : W.heap.size ≤ HA)
    (bB : Below wa.heap.size wa XB) (gB : XB.grownBy wb vv.ownBlock) (oB : wb.ownsRow 0 2 1 (.slice (some ⟨gb, 0, none⟩) (m + 1) cb) (m + 1) (ints (l.map (·.2)) ++ [.int .i64 v])) (aB : vv.ownBlock = some gb ∨ gb = HB) (hB : wa.heap.size ≤ HB) :
    Col ((wb.setCell ⟨tb, 0, none⟩ (.slice (some ⟨ga, 0, none⟩) (m + 1) ca)).setCell ⟨vb, 0, none⟩ (.slice (some ⟨gb, 0, none⟩) (m + 1) cb)) rb sb tb vb nb n false (l ++ [(t, v)]) (.slice (some ⟨ga, 0, none⟩) (m + 1) ca) (.slice (some ⟨gb, 0, none⟩) (m + 1) cb) ∧
      Only (ColP rb sb tb vb tv vv) W ((wb.setCell ⟨tb, 0, none⟩ (.slice (some ⟨ga, 0, none⟩) (m + 1) ca)).setCell ⟨vb, 0, none⟩ (.slice (some ⟨gb, 0, none⟩) (m + 1) cb)) ∧ (tv.ownBlock = some ga ∨ W.heap.size ≤ ga) ∧ (vv.ownBlock = some gb ∨ W.heap.size ≤ gb) := by
  have sA : W.heap.size ≤ wa.heap.size := Nat.le_trans bA.size gA.size
  have ltV : ∀ g, vv.ownBlock = some g → g < W.heap.size := fun g hg => (h.ov.lt _ hg).2
  have gaV : vv.ownBlock ≠ some ga := by
    intro e
    rcases aA with q | q
    · exact h.ne _ q e
    · have := ltV _ e; omega
  have hgab : ga ≠ gb := by
    intro e
    rcases aB with q | q
    · exact gaV (e ▸ q)
    · omega
  -- from W to wb: the two rows alone
  have o1 : Only (fun b => tv.ownBlock = some b ∨ vv.ownBlock = some b) W wb :=
    ((((Only.of_below bA).grown gA (fun b _ e => .inl e)).trans (Only.of_below (P := fun _ => False) bB) (fun _ _ f => f.elim)).grown gB (fun b _ e => .inr e))
  have kb : ∀ {a : Nat} {cs : Array Value} {T : Nat}, W.heap[a]? = some (.cells cs T (0, 0)) → T ≠ 2 → wb.heap[a]? = some (.cells cs T (0, 0)) := fun hh hT => o1.heap hh (fun q => by
    rcases q with q | q
    · exact row_ne hh h.ot (fun e => hT e.symm) q
    · exact row_ne hh h.ov (fun e => hT e.symm) q)
  have r1 := kb h.hr (by decide)
  have s1 := kb h.hs (by decide)
  have t1 := kb h.ht (by decide)
  have v1 := kb h.hv (by decide)
  have n1 := kb h.hn (by decide)
  have oA1 : wb.ownsRow 0 2 1 (.slice (some ⟨ga, 0, none⟩) (m + 1) ca) (m + 1) (ints (l.map (·.1)) ++ [.int .i64 t]) :=
    (((Only.of_below (P := fun b => vv.ownBlock = some b) bB).grown gB (fun b _ e => e))).owns oA (fun g hg e => by injection hg with hg; have hg : ga = g := hg; exact gaV (by rw [hg]; exact e))
  -- the two stores
  have o2 : Only (fun b => b = tb ∨ b = vb) wb ((wb.setCell ⟨tb, 0, none⟩ (.slice (some ⟨ga, 0, none⟩) (m + 1) ca)).setCell ⟨vb, 0, none⟩ (.slice (some ⟨gb, 0, none⟩) (m + 1) cb)) :=
    ((Only.refl (fun b => b = tb ∨ b = vb) wb).setCell (a := ⟨tb, 0, none⟩) (fun _ => .inl rfl) _).setCell (a := ⟨vb, 0, none⟩) (fun _ => .inr rfl) _
  have k2 : ∀ {a : Nat} {cs : Array Value} {T : Nat}, wb.heap[a]? = some (.cells cs T (0, 0)) → T ≠ 61 → ¬ (a = tb ∨ a = vb) := fun hh hT q => by
    rcases q with q | q
    · exact kind_ne hh t1 hT q
    · exact kind_ne hh v1 hT q
  have kr : ∀ {x : Value} {xs : List Value}, wb.ownsRow 0 2 1 x (m + 1) xs → ∀ g, x.ownBlock = some g → ¬ (g = tb ∨ g = vb) := fun ho g hg q => by
    rcases q with q | q
    · subst q; exact row_ne t1 ho (by decide) hg
    · subst q; exact row_ne v1 ho (by decide) hg
  have hl2 : (l ++ [(t, v)]).length = m + 1 := by simp [hm]
  refine ⟨⟨o2.heap r1 (k2 r1 (by decide)), o2.heap s1 (k2 s1 (by decide)), ?_, ?_, o2.heap n1 (k2 n1 (by decide)), h.rs, h.tvb, ?_, ?_, fun g hg e => ?_⟩, ?_, ?_, ?_⟩
  · rw [Below.heap_setCell _ _ _ _ h.tvb]
    exact heap_set_same (i := 0) (v := .slice (some ⟨ga, 0, none⟩) (m + 1) ca) t1
  · exact heap_set_same (i := 0) (v := .slice (some ⟨gb, 0, none⟩) (m + 1) cb) (heap_set_other v1 (fun e => h.tvb e.symm))
  · rw [hl2]
    have := o2.owns oA1 (kr oA1)
    simpa [ints] using this
  · rw [hl2]
    have := o2.owns oB (kr oB)
    simpa [ints] using this
  · injection hg with hg
    injection e with e
    exact hgab (hg.trans e.symm)
  · refine (o1.mono (fun b _ q => ?_)).trans (o2.mono (fun b _ q => ?_)) (fun b _ q => q)
    · rcases q with q | q
      · exact .inr (.inr (.inr (.inr (.inl q))))
      · exact .inr (.inr (.inr (.inr (.inr q))))
    · rcases q with q | q
      · exact .inr (.inr (.inl q))
      · exact .inr (.inr (.inr (.inl q)))
  · rcases aA with q | q
    · exact .inl q
    · exact .inr (by omega)
  · rcases aB with q | q
    · exact .inl q
    · exact .inr (by omega)

set_option maxRecDepth 1000000 in
set_option maxHeartbeats 4000000 in
theorem collect {w : World} {rb sb tb vb nb : Nat} {n : Int} {l : List (Int × Int)} {tv vv : Value} (h : Col w rb sb tb vb nb n false l tv vv) (hl : l.length ≤ 17) (t v : Int) :
    Calls Try.prog 32 #[.int .i64 t, .int .i64 v, .pointer (some ⟨rb, 0, none⟩), .pointer (some ⟨sb, 0, none⟩), .pointer (some ⟨tb, 0, none⟩), .pointer (some ⟨vb, 0, none⟩), .pointer (some ⟨nb, 0, none⟩)] w fun e w' =>
      e = .returned (.bool (!decide ((l.length : Int) + 1 = n))) ∧ ∃ tv' vv', Col w' rb sb tb vb nb n (decide ((l.length : Int) + 1 = n)) (l ++ [(t, v)]) tv' vv' ∧ Only (ColP rb sb tb vb tv vv) w w' ∧
        (tv'.ownBlock = tv.ownBlock ∨ ∃ g, tv'.ownBlock = some g ∧ w.heap.size ≤ g) ∧ (vv'.ownBlock = vv.ownBlock ∨ ∃ g, vv'.ownBlock = some g ∧ w.heap.size ≤ g) := by
  obtain ⟨i0, hi0, hz0, hz1, hz2⟩ := info_parts infoI64
  have cr := cell_of_heap (i := 0) h.hr rfl
  have cs := cell_of_heap (i := 0) h.hs rfl
  have fr := frozen_of_heap (i := 0) h.hr
  obtain ⟨ta, tc, rfl⟩ := owns_slice h.ot
  obtain ⟨va, vc, rfl⟩ := owns_slice h.ov
  have hO : Only (fun b => b = rb) w (w.setCell ⟨rb, 0, none⟩ (.bool true)) := (Only.refl (fun b => b = rb) w).setCell (a := ⟨rb, 0, none⟩) (fun _ => rfl) _
  have hW : Col (w.setCell ⟨rb, 0, none⟩ (.bool true)) rb sb tb vb nb n false l (.slice ta l.length tc) (.slice va l.length vc) :=
    ⟨heap_set_same (i := 0) (v := .bool true) h.hr, hO.heap h.hs (fun e => h.rs e.symm), hO.heap h.ht (kind_ne h.ht h.hr (by decide)), hO.heap h.hv (kind_ne h.hv h.hr (by decide)), hO.heap h.hn (kind_ne h.hn h.hr (by decide)), h.rs, h.tvb,
      hO.owns h.ot (fun g hg e => by subst e; exact row_ne h.hr h.ot (by decide) hg), hO.owns h.ov (fun g hg e => by subst e; exact row_ne h.hr h.ov (by decide) hg), h.ne⟩
  have HO : Hid (Only (fun b => b = rb) w (w.setCell ⟨rb, 0, none⟩ (.bool true))) := hO
  clear hO h
  generalize hn : l.length = m at *
  go_enter Try.func32, Try.ntmps32
  go_wp2_with fail
  generalize w.setCell ⟨rb, 0, none⟩ (.bool true) = W at *
  have ct : W.cell? ⟨tb, 0, none⟩ = some (.slice ta m tc) := cell_of_heap (i := 0) hW.ht rfl
  have cv : W.cell? ⟨vb, 0, none⟩ = some (.slice va m vc) := cell_of_heap (i := 0) hW.hv rfl
  have ft : W.frozen? ⟨tb, 0, none⟩ = false := frozen_of_heap hW.ht
  have fv : W.frozen? ⟨vb, 0, none⟩ = false := frozen_of_heap hW.hv
  have HW : Hid (Col W rb sb tb vb nb n false l (.slice ta m tc) (.slice va m vc)) := hW
  have hOT : Hid (W.ownsRow 0 2 1 (.slice ta m tc) m (ints (l.map (·.1)))) := by have := hW.ot; rw [hn] at this; exact this
  have hOV : Hid (W.ownsRow 0 2 1 (.slice va m vc) m (ints (l.map (·.2)))) := by have := hW.ov; rw [hn] at this; exact this
  have ntt : Hid ((Value.slice ta m tc).ownBlock ≠ some tb) := row_ne hW.ht hW.ot (by decide)
  have ntv : Hid ((Value.slice ta m tc).ownBlock ≠ some vb) := row_ne hW.hv hW.ot (by decide)
  have nvt : Hid ((Value.slice va m vc).ownBlock ≠ some tb) := row_ne hW.ht hW.ov (by decide)
  have nvv : Hid ((Value.slice va m vc).ownBlock ≠ some vb) := row_ne hW.hv hW.ov (by decide)
  have ltT : Hid (∀ g, (Value.slice ta m tc).ownBlock = some g → g < W.heap.size) := fun g hg => (hW.ot.lt _ hg).2
  have ltV : Hid (∀ g, (Value.slice va m vc).ownBlock = some g → g < W.heap.size) := fun g hg => (hW.ov.lt _ hg).2
  have neTV : Hid ((Value.slice ta m tc).ownBlock = none ∨ (Value.slice ta m tc).ownBlock ≠ (Value.slice va m vc).ownBlock) := by
    cases e : (Value.slice ta m tc).ownBlock with
    | none => exact .inl rfl
    | some g => exact .inr (fun e' => hW.ne g e e'.symm)
  have neVT : Hid ((Value.slice va m vc).ownBlock = none ∨ (Value.slice va m vc).ownBlock ≠ (Value.slice ta m tc).ownBlock) := by
    cases e : (Value.slice va m vc).ownBlock with
    | none => exact .inl rfl
    | some g => exact .inr (fun e' => hW.ne g e'.symm e)
  have ct1 : ∀ o, (W.alloc o).cell? ⟨tb, 0, none⟩ = some (.slice ta m tc) := cell_past ct
  have cv1 : ∀ o, (W.alloc o).cell? ⟨vb, 0, none⟩ = some (.slice va m vc) := cell_past cv
  have ct2 : ∀ o o', ((W.alloc o).alloc o').cell? ⟨tb, 0, none⟩ = some (.slice ta m tc) := fun o => cell_past (cell_past ct o)
  have cv2 : ∀ o o', ((W.alloc o).alloc o').cell? ⟨vb, 0, none⟩ = some (.slice va m vc) := fun o => cell_past (cell_past cv o)
  have hbv : ¬ tb = vb := hW.tvb
  have hvb : ¬ vb = tb := fun e => hW.tvb e.symm
  clear hW
  refine Code.wp_mono (Q := Exit.then (fun a w' => ∃ (x17 x21 ga ca gb cb : Nat), a = { tmps := #[.int .i64 t, .int .i64 v, .pointer (some ⟨rb, 0, none⟩), .pointer (some ⟨sb, 0, none⟩), .pointer (some ⟨tb, 0, none⟩), .pointer (some ⟨vb, 0, none⟩), .pointer (some ⟨nb, 0, none⟩), undef, undef, .bool false, .bool true, .bool true, .bool false, .bool true, .bool true, .slice ta m tc, .int .i64 t, .slice (some ⟨x17, 0, none⟩) 1 1, .slice (some ⟨ga, 0, none⟩) (m + 1) ca, .slice va m vc, .int .i64 v, .slice (some ⟨x21, 0, none⟩) 1 1, .slice (some ⟨gb, 0, none⟩) (m + 1) cb, undef, undef, undef, undef, undef, undef, undef, undef, undef, undef, undef, undef, undef, undef], defers := [] } ∧
      Hid (Col w' rb sb tb vb nb n false (l ++ [(t, v)]) (.slice (some ⟨ga, 0, none⟩) (m + 1) ca) (.slice (some ⟨gb, 0, none⟩) (m + 1) cb) ∧ Only (ColP rb sb tb vb (.slice ta m tc) (.slice va m vc)) W w' ∧ ((Value.slice ta m tc).ownBlock = some ga ∨ W.heap.size ≤ ga) ∧ ((Value.slice va m vc).ownBlock = some gb ∨ W.heap.size ≤ gb))) (fun _ _ _ => False)) ?imp ?reg
  case reg =>
    go_region_law (first
        | (refine step_append_lies _ (by rfl) (.tmp 15) (.tmp 17) _ (by rfl) 0 2 i0 (.int .i64 0) 1 8 Try.underlying61 hi0 hz0 hz1 hz2 rfl (by omega) (.slice ta m tc) m (ints (l.map (·.1))) (by rfl) (by repeat (first | with_reducible exact hOT.out | with_reducible apply World.ownsRow.drew | with_reducible apply World.ownsRow.alloc | refine World.ownsRow.kept ?_ hgB neTV.out)) ⟨_, 0, none⟩ 1 1 [.int .i64 t] (by rfl) (by rfl) (news1 (by repeat (first | with_reducible exact cell_new_at (by simp) | with_reducible apply cell_drawn | with_reducible apply cell_past | refine cell_far hgB ?_ (fun e => absurd (ltV.out _ e) (by simp))))) (by simp [Value.oneCell']) (by omega) (by unfold maxLen; omega) (by omega) (by omega) _ (by rfl) ?_; intro ga ca wa hoA hgA hatA hltA; have ctA : wa.cell? ⟨tb, 0, none⟩ = some (.slice ta m tc) := cell_far hgA (by repeat (first | with_reducible exact ct | with_reducible apply cell_drawn | with_reducible apply cell_past | refine cell_far hgB ?_ nvt.out)) ntt.out; have cvA : wa.cell? ⟨vb, 0, none⟩ = some (.slice va m vc) := cell_far hgA (by repeat (first | with_reducible exact cv | with_reducible apply cell_drawn | with_reducible apply cell_past | refine cell_far hgB ?_ nvv.out)) ntv.out; have cvA1 : ∀ o, (wa.alloc o).cell? ⟨vb, 0, none⟩ = some (.slice va m vc) := cell_past cvA; have ftA : wa.frozen? ⟨tb, 0, none⟩ = false := frozen_far hgA ⟨_, (by repeat (first | with_reducible exact ct | with_reducible apply cell_drawn | with_reducible apply cell_past | refine cell_far hgB ?_ nvt.out))⟩ (by repeat (first | with_reducible exact ft | with_reducible apply frozen_drawn | with_reducible refine frozen_old ⟨_, (by repeat (first | with_reducible exact ct | with_reducible apply cell_drawn | with_reducible apply cell_past | refine cell_far hgB ?_ nvt.out))⟩ ?_ | refine frozen_far hgB ⟨_, (by repeat (first | with_reducible exact ct | with_reducible apply cell_drawn | with_reducible apply cell_past | refine cell_far hgB ?_ nvt.out))⟩ ?_ nvt.out)) ntt.out; have fvA : wa.frozen? ⟨vb, 0, none⟩ = false := frozen_far hgA ⟨_, (by repeat (first | with_reducible exact cv | with_reducible apply cell_drawn | with_reducible apply cell_past | refine cell_far hgB ?_ nvv.out))⟩ (by repeat (first | with_reducible exact fv | with_reducible apply frozen_drawn | with_reducible refine frozen_old ⟨_, (by repeat (first | with_reducible exact cv | with_reducible apply cell_drawn | with_reducible apply cell_past | refine cell_far hgB ?_ nvv.out))⟩ ?_ | refine frozen_far hgB ⟨_, (by repeat (first | with_reducible exact cv | with_reducible apply cell_drawn | with_reducible apply cell_past | refine cell_far hgB ?_ nvv.out))⟩ ?_ nvv.out)) ntv.out)
        | (refine step_append_lies _ (by rfl) (.tmp 19) (.tmp 21) _ (by rfl) 0 2 i0 (.int .i64 0) 1 8 Try.underlying61 hi0 hz0 hz1 hz2 rfl (by omega) (.slice va m vc) m (ints (l.map (·.2))) (by rfl) (by repeat (first | with_reducible exact hOV.out | with_reducible apply World.ownsRow.drew | with_reducible apply World.ownsRow.alloc | refine World.ownsRow.kept ?_ hgA neVT.out)) ⟨_, 0, none⟩ 1 1 [.int .i64 v] (by rfl) (by rfl) (news1 (by repeat (first | with_reducible exact cell_new_at (by simp) | with_reducible apply cell_drawn | with_reducible apply cell_past | refine cell_far hgA ?_ (fun e => absurd (ltT.out _ e) (by simp))))) (by simp [Value.oneCell']) (by omega) (by unfold maxLen; omega) (by omega) (by omega) _ (by rfl) ?_; intro gb cb wb hoB hgB hatB hltB; have ctB : wb.cell? ⟨tb, 0, none⟩ = some (.slice ta m tc) := cell_far hgB (by repeat (first | with_reducible exact ctA | with_reducible apply cell_drawn | with_reducible apply cell_past)) nvt.out; have cvB : wb.cell? ⟨vb, 0, none⟩ = some (.slice va m vc) := cell_far hgB (by repeat (first | with_reducible exact cvA | with_reducible apply cell_drawn | with_reducible apply cell_past)) nvv.out; have ftB : wb.frozen? ⟨tb, 0, none⟩ = false := frozen_far hgB ⟨_, (by repeat (first | with_reducible exact ctA | with_reducible apply cell_drawn | with_reducible apply cell_past))⟩ (by repeat (first | with_reducible exact ftA | with_reducible apply frozen_drawn | with_reducible refine frozen_old ⟨_, (by repeat (first | with_reducible exact ctA | with_reducible apply cell_drawn | with_reducible apply cell_past))⟩ ?_)) nvt.out; have fvB : wb.frozen? ⟨vb, 0, none⟩ = false := frozen_far hgB ⟨_, (by repeat (first | with_reducible exact cvA | with_reducible apply cell_drawn | with_reducible apply cell_past))⟩ (by repeat (first | with_reducible exact fvA | with_reducible apply frozen_drawn | with_reducible refine frozen_old ⟨_, (by repeat (first | with_reducible exact cvA | with_reducible apply cell_drawn | with_reducible apply cell_past))⟩ ?_)) nvv.out))
    all_goals exact ⟨_, _, ga, ca, gb, cb, rfl, collected HW.out hn (by repeat (first | with_reducible exact Below.refl _ _ | with_reducible apply below_drawn | with_reducible apply below_past)) hgA hoA hatA hltA (by first | (simp; done) | (simp; omega)) (by repeat (first | with_reducible exact Below.refl _ _ | with_reducible apply below_drawn | with_reducible apply below_past)) hgB hoB hatB (by first | (simp; done) | (simp; omega))⟩
  case imp =>
    clear ct cv ft fv ct1 cv1 ct2 cv2
    intro e a w1 hq
    cases e with
    | normal => ?_
    | _ => exact hq.elim
    obtain ⟨x17, x21, ga, ca, gb, cb, rfl, HC⟩ := hq
    have ds : w1.cell? ⟨sb, 0, none⟩ = some (.bool false) := cell_of_heap HC.out.1.hs rfl
    have dt : w1.cell? ⟨tb, 0, none⟩ = some (.slice (some ⟨ga, 0, none⟩) (m + 1) ca) := cell_of_heap HC.out.1.ht rfl
    have dn : w1.cell? ⟨nb, 0, none⟩ = some (.int .i64 n) := cell_of_heap HC.out.1.hn rfl
    have fs : w1.frozen? ⟨sb, 0, none⟩ = false := frozen_of_heap HC.out.1.hs
    have h1000 : ¬ (1000 : Int) < (m : Int) + 1 := by omega
    have FIN : Hid (∀ b : Bool, Col (w1.setCell ⟨sb, 0, none⟩ (.bool b)) rb sb tb vb nb n b (l ++ [(t, v)]) (.slice (some ⟨ga, 0, none⟩) (m + 1) ca) (.slice (some ⟨gb, 0, none⟩) (m + 1) cb) ∧ Only (ColP rb sb tb vb (.slice ta m tc) (.slice va m vc)) w (w1.setCell ⟨sb, 0, none⟩ (.bool b)) ∧
        ((Value.slice (some ⟨ga, 0, none⟩) (m + 1) ca).ownBlock = (Value.slice ta m tc).ownBlock ∨ ∃ g, (Value.slice (some ⟨ga, 0, none⟩) (m + 1) ca).ownBlock = some g ∧ w.heap.size ≤ g) ∧ ((Value.slice (some ⟨gb, 0, none⟩) (m + 1) cb).ownBlock = (Value.slice va m vc).ownBlock ∨ ∃ g, (Value.slice (some ⟨gb, 0, none⟩) (m + 1) cb).ownBlock = some g ∧ w.heap.size ≤ g)) := by
      intro b
      obtain ⟨hc, ho, ha, hb⟩ := HC.out
      have hO := (Only.refl (fun x => x = sb) w1).setCell (a := ⟨sb, 0, none⟩) (fun _ => rfl) (.bool b)
      refine ⟨⟨hO.heap hc.hr hc.rs, heap_set_same (i := 0) (v := .bool b) hc.hs, hO.heap hc.ht (kind_ne hc.ht hc.hs (by decide)), hO.heap hc.hv (kind_ne hc.hv hc.hs (by decide)), hO.heap hc.hn (kind_ne hc.hn hc.hs (by decide)), hc.rs, hc.tvb,
        hO.owns hc.ot (fun g hg e => by subst e; exact row_ne hc.hs hc.ot (by decide) hg), hO.owns hc.ov (fun g hg e => by subst e; exact row_ne hc.hs hc.ov (by decide) hg), hc.ne⟩, ?_, ?_, ?_⟩
      · exact ((HO.out.mono (fun _ _ q => .inl q)).trans ho (fun _ _ q => q)).trans hO (fun _ _ q => .inr (.inl q))
      · have hs := HO.out.size
        rcases ha with q | q
        · exact .inl q.symm
        · exact .inr ⟨ga, rfl, by omega⟩
      · have hs := HO.out.size
        rcases hb with q | q
        · exact .inl q.symm
        · exact .inr ⟨gb, rfl, by omega⟩
    by_cases hmn : (m : Int) + 1 = n
    · have hb : (((m : Int) + 1) == n) = true := by simp [hmn]
      have HD : Hid (decide ((m : Int) + 1 = n) = true) := decide_eq_true hmn
      clear hmn
      go_wp2
      go_ret
      rw [HD.out]
      exact ⟨rfl, _, _, FIN.out true⟩
    · have hb : (((m : Int) + 1) == n) = false := by simp [hmn]
      have HD : Hid (decide ((m : Int) + 1 = n) = false) := decide_eq_false hmn
      clear hmn
      go_wp2
      go_ret
      rw [HD.out]
      exact ⟨rfl, _, _, FIN.out false⟩
end Go.Proofs.Ytjcbbcnjnnpfoaa
