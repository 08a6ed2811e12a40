/-
  THE LAW's CASES: their state; moves, WALKED.
-/
import Derived.Test.YtjcbbcnjnnpfoaaWinJ3
namespace Go.Proofs.Ytjcbbcnjnnpfoaa
open Go.RowKit Go.Lib Go.Shelf

/-- A case of the law: two windows, and all that was ever pushed. -/
structure Cas (w : World) (b : Nat) (wid now : Int) (l : List (Int × Int)) (bw Rn Rs : Nat) (lv mn ms : Value) : Prop where
  blk : w.heap[b]? = some (.cells #[.pointer (some ⟨bw, 0, none⟩), lv, .int .i64 wid, .int .i64 now] 27 (0, 0))
  own : w.ownsRow 0 56 2 lv l.length (sCells (Value.int .i64) l)
  both : Both w bw Rn Rs wid now (keptR wid now l) mn ms
  up : Up l
  le : AllLe now l
  t64 : ∀ x ∈ l, I64 x.1
/-- The blocks that a case turns. -/
abbrev CasP (b Rn Rs : Nat) (lv mn ms : Value) : Nat → Prop := fun x => x = b ∨ lv.ownBlock = some x ∨ BothP Rn Rs mn ms x
theorem Cas.only {w w' : World} {b bw Rn Rs : Nat} {wid now : Int} {l : List (Int × Int)} {lv mn ms : Value} {P : Nat → Prop} (h : Cas w b wid now l bw Rn Rs lv mn ms) (ho : Only P w w') (h0 : ¬ P b) (h1 : ¬ P bw) (h2 : ¬ P Rn) (h3 : ¬ P Rs) (h4 : ∀ g, lv.ownBlock = some g → ¬ P g) (h5 : ∀ g, mn.ownBlock = some g → ¬ P g) (h6 : ∀ g, ms.ownBlock = some g → ¬ P g) : Cas w' b wid now l bw Rn Rs lv mn ms :=
  ⟨ho.heap h.blk h0, ho.owns h.own h4, h.both.only ho h1 h2 h3 h5 h6, h.up, h.le, h.t64⟩
theorem Cas.below {w w' : World} {b bw Rn Rs : Nat} {wid now : Int} {l : List (Int × Int)} {lv mn ms : Value} (h : Cas w b wid now l bw Rn Rs lv mn ms) (hb : Below w.heap.size w w') : Cas w' b wid now l bw Rn Rs lv mn ms :=
  h.only (P := fun _ => False) (.of_below hb) id id id id (fun _ _ => id) (fun _ _ => id) (fun _ _ => id)
/-- What the pair turns is neither the case's block nor its list. -/
theorem Cas.apart {w : World} {b bw Rn Rs : Nat} {wid now : Int} {l : List (Int × Int)} {lv mn ms : Value} (h : Cas w b wid now l bw Rn Rs lv mn ms) : ¬ BothP Rn Rs mn ms b ∧ ∀ g, lv.ownBlock = some g → ¬ BothP Rn Rs mn ms g := by
  refine ⟨fun q => ?_, fun g hg q => ?_⟩
  · rcases q with (q | q) | (q | q)
    · exact kind_ne h.blk h.both.n.blk (by decide) q
    · exact row_ne h.blk h.both.n.own (by decide) q
    · exact kind_ne h.blk h.both.s.blk (by decide) q
    · exact row_ne h.blk h.both.s.own (by decide) q
  · rcases q with (q | q) | (q | q)
    · subst q; exact row_ne h.both.n.blk h.own (by decide) hg
    · exact rows_ne h.own h.both.n.own (by decide) g hg q
    · subst q; exact row_ne h.both.s.blk h.own (by decide) hg
    · exact rows_ne h.own h.both.s.own (by decide) g hg q
/-- What a step leaves. -/
def Stp (w w' : World) (b : Nat) (wid : Int) (l : List (Int × Int)) (bw Rn Rs : Nat) (lv mn ms : Value) : Prop :=
  ∃ now' l' lv' mn' ms', Cas w' b wid now' l' bw Rn Rs lv' mn' ms' ∧ Renew w.heap.size lv lv' ∧ Renew w.heap.size mn mn' ∧ Renew w.heap.size ms ms' ∧ Only (CasP b Rn Rs lv mn ms) w w' ∧ l'.length ≤ l.length + 1
theorem Cas.stay {w w' : World} {b bw Rn Rs : Nat} {wid now : Int} {l : List (Int × Int)} {lv mn ms : Value} (h : Cas w b wid now l bw Rn Rs lv mn ms) (hb : Below w.heap.size w w') : Stp w w' b wid l bw Rn Rs lv mn ms :=
  ⟨now, l, lv, mn, ms, h.below hb, .inl rfl, .inl rfl, .inl rfl, .of_below hb, by omega⟩
abbrev opVal (kind : Int) (two : Bool) (A B : Int) : Value := .agg #[.int .i64 kind, .bool two, .int .i64 A, .int .i64 B]

theorem news2 {X : World} {b : Nat} {x y : Value} (h : X.cell? ⟨b, 0, none⟩ = some x) (k : X.cell? ⟨b, 1, none⟩ = some y) : ∀ (j : Nat) (u : Value), [x, y][j]? = some u → X.cell? ((⟨b, 0, none⟩ : Addr).add j) = some u := by
  intro j u hu
  match j with
  | 0 => injection hu with hu; subst hu; exact h
  | 1 => injection hu with hu; subst hu; rw [Addr.add_lit]; exact k
  | j + 2 => simp at hu
theorem cell2_new_at {Y : World} {b : Nat} {x y : Value} {T : TypeId} (hb : b = Y.heap.size) : (Y.alloc (.cells #[x, y] T)).cell? ⟨b, 0, none⟩ = some x := by
  subst hb
  exact cell_of_heap (block_new _ _ _) rfl
theorem cell2_new_at' {Y : World} {b : Nat} {x y : Value} {T : TypeId} (hb : b = Y.heap.size) : (Y.alloc (.cells #[x, y] T)).cell? ⟨b, 1, none⟩ = some y := by
  subst hb
  exact cell_of_heap (block_new _ _ _) rfl
/-- The pair has moved on to a time; the case's own time follows. -/
theorem moved {w w1 w2 : World} {b bw Rn Rs : Nat} {wid now A : Int} {l : List (Int × Int)} {k : List (Int × Int)} {lv mn ms mn' ms' : Value} (hw1 : Below w.heap.size w w1) (h1 : Cas w1 b wid now l bw Rn Rs lv mn ms)
    (hb2 : Both w2 bw Rn Rs wid A k mn' ms') (ho2 : Only (BothP Rn Rs mn ms) w1 w2) :
    (w2.setCell ⟨b, 3, none⟩ (.int .i64 A)).heap[b]? = some (.cells #[.pointer (some ⟨bw, 0, none⟩), lv, .int .i64 wid, .int .i64 A] 27 (0, 0)) ∧
    (w2.setCell ⟨b, 3, none⟩ (.int .i64 A)).ownsRow 0 56 2 lv l.length (sCells (Value.int .i64) l) ∧ Both (w2.setCell ⟨b, 3, none⟩ (.int .i64 A)) bw Rn Rs wid A k mn' ms' ∧ Only (CasP b Rn Rs lv mn ms) w (w2.setCell ⟨b, 3, none⟩ (.int .i64 A)) := by
  have g2 := ho2.heap h1.blk h1.apart.1
  have r2 := ho2.owns h1.own h1.apart.2
  have o3 : Only (fun x => x = b) w2 (w2.setCell ⟨b, 3, none⟩ (.int .i64 A)) := (Only.refl (fun x => x = b) w2).setCell (a := ⟨b, 3, none⟩) (fun _ => rfl) _
  refine ⟨heap_set_same (i := 3) (v := .int .i64 A) g2, o3.owns r2 (fun g hg e => by subst e; exact row_ne g2 r2 (by decide) hg), ?_, ?_⟩
  · exact hb2.only o3 (kind_ne hb2.blk g2 (by decide)) (kind_ne hb2.n.blk g2 (by decide)) (kind_ne hb2.s.blk g2 (by decide)) (fun g hg e => by subst e; exact row_ne g2 hb2.n.own (by decide) hg) (fun g hg e => by subst e; exact row_ne g2 hb2.s.own (by decide) hg)
  · exact ((Only.of_below (P := CasP b Rn Rs lv mn ms) hw1).trans ho2 (fun x _ q => .inr (.inr q))).trans o3 (fun x _ q => .inl q)
/-- A sample has come to the list. -/
theorem pushed_case {w w3 X wa : World} {b bw Rn Rs : Nat} {wid now A B : Int} {l : List (Int × Int)} {lv mn ms mn' ms' : Value} {ga ca n : Nat} (hn : l.length = n) (hup : Up l) (hle0 : AllLe now l) (h64 : ∀ x ∈ l, I64 x.1) (hA : I64 A) (hle : now ≤ A)
    (hg3 : w3.heap[b]? = some (.cells #[.pointer (some ⟨bw, 0, none⟩), lv, .int .i64 wid, .int .i64 A] 27 (0, 0))) (hr3 : w3.ownsRow 0 56 2 lv l.length (sCells (Value.int .i64) l)) (hb3 : Both w3 bw Rn Rs wid A (trim wid A (keptR wid now l ++ [(A, B)])) mn' ms') (ho3 : Only (CasP b Rn Rs lv mn ms) w w3)
    (bX : Below w3.heap.size w3 X) (hg : X.grownBy wa lv.ownBlock) (hoA : wa.ownsRow 0 56 2 (.slice (some ⟨ga, 0, none⟩) (n + 1) ca) (n + 1) (sCells (Value.int .i64) l ++ [.int .i64 A, .int .i64 B])) (hat : lv.ownBlock = some ga ∨ w3.heap.size ≤ ga) (hmn : Renew w.heap.size mn mn') (hms : Renew w.heap.size ms ms') :
    Stp w (wa.setCell ⟨b, 1, none⟩ (.slice (some ⟨ga, 0, none⟩) (n + 1) ca)) b wid l bw Rn Rs lv mn ms := by
  have oa : Only (fun x => lv.ownBlock = some x) w3 wa := (Only.of_below bX).grown hg (fun x _ e => e)
  have gA := oa.heap hg3 (row_ne hg3 hr3 (by decide))
  have ob : Only (fun x => x = b) wa (wa.setCell ⟨b, 1, none⟩ (.slice (some ⟨ga, 0, none⟩) (n + 1) ca)) := (Only.refl (fun x => x = b) wa).setCell (a := ⟨b, 1, none⟩) (fun _ => rfl) _
  have ba : Both wa bw Rn Rs wid A (trim wid A (keptR wid now l ++ [(A, B)])) mn' ms' := hb3.only oa (row_ne hb3.blk hr3 (by decide)) (row_ne hb3.n.blk hr3 (by decide)) (row_ne hb3.s.blk hr3 (by decide)) (fun g hg q => rows_ne hr3 hb3.n.own (by decide) g q hg) (fun g hg q => rows_ne hr3 hb3.s.own (by decide) g q hg)
  have b5 := ba.only ob (kind_ne ba.blk gA (by decide)) (kind_ne ba.n.blk gA (by decide)) (kind_ne ba.s.blk gA (by decide)) (fun g hg e => by subst e; exact row_ne gA ba.n.own (by decide) hg) (fun g hg e => by subst e; exact row_ne gA ba.s.own (by decide) hg)
  rw [trim_push hup hle0 hle] at b5
  have hl2 : (l ++ [(A, B)]).length = n + 1 := by simp [hn]
  refine ⟨A, l ++ [(A, B)], .slice (some ⟨ga, 0, none⟩) (n + 1) ca, mn', ms', ⟨heap_set_same (i := 1) (v := .slice (some ⟨ga, 0, none⟩) (n + 1) ca) gA, ?_, b5, hup.snoc (hle0.mono hle), hle0.snoc hle, ?_⟩, ?_, hmn, hms, ?_, by simp⟩
  · rw [hl2, sCells_append]
    have := ob.owns hoA (fun g hg e => by subst e; exact row_ne gA hoA (by decide) hg)
    simpa [sCells] using this
  · intro x hx
    rcases List.mem_append.1 hx with q | q
    · exact h64 x q
    · rw [List.mem_singleton.1 q]; exact hA
  · rcases hat with q | q
    · exact .inl q.symm
    · exact .inr ⟨ga, rfl, Nat.le_trans ho3.size q⟩
  · exact (ho3.trans oa (fun x _ q => .inr (.inl q))).trans ob (fun x _ q => .inl q)

set_option maxRecDepth 1000000 in
set_option maxHeartbeats 4000000 in
theorem law_push {w : World} {b bw Rn Rs : Nat} {wid now : Int} {l : List (Int × Int)} {lv mn ms : Value} (h : Cas w b wid now l bw Rn Rs lv mn ms) (two : Bool) (A B : Int) (hA : I64 A) (hle : now ≤ A) (hll : l.length ≤ 1073741824) :
    Calls Try.prog 8 #[.pointer (some ⟨b, 0, none⟩), opVal 1 two A B] w fun e w' => e = .returned (.bool true) ∧ Stp w w' b wid l bw Rn Rs lv mn ms := by
  obtain ⟨i0, hi0, hz0, hz1, hz2⟩ := info_parts infoRef
  have hnl : ¬ A < now := by omega
  have hk : ∀ W, _ := fun W => ref_key B W
  have nb : (w.alloc (.cells #[.int .i64 1, .bool two, .int .i64 A, .int .i64 B] 30)).heap[w.heap.size]? = some (.cells #[.int .i64 1, .bool two, .int .i64 A, .int .i64 B] 30 (0, 0)) := block_new _ _ _
  have n0 := cell_of_heap (i := 0) nb rfl
  have n3 := cell_of_heap (i := 3) nb rfl
  have hB1 := (Below.refl w.heap.size w).alloc (Nat.le_refl _) (.cells #[.int .i64 1, .bool two, .int .i64 A, .int .i64 B] 30)
  have H : Hid (Cas w b wid now l bw Rn Rs lv mn ms) := h
  clear h
  go_enter Try.func8, Try.ntmps8
  go_wp2_with fail
  refine (hk _).mono ?_
  rintro e w1 ⟨rfl, hb1⟩
  have hbw1 : Below w.heap.size w w1 := hB1.trans (hb1.mono (by simp))
  have mb : w1.heap[w.heap.size]? = _ := (hb1.block _ (heap_lt nb)).trans nb
  have h1 := H.out.below hbw1
  have HB1 : Hid (Below w.heap.size w w1) := hbw1
  have MB : Hid (w1.heap[w.heap.size]? = some (.cells #[.int .i64 1, .bool two, .int .i64 A, .int .i64 B] 30 (0, 0))) := mb
  have H1 : Hid (Cas w1 b wid now l bw Rn Rs lv mn ms) := h1
  have c0 : w1.cell? ⟨b, 0, none⟩ = some (.pointer (some ⟨bw, 0, none⟩)) := cell_of_heap h1.blk rfl
  have m2 : w1.cell? ⟨w.heap.size, 2, none⟩ = some (.int .i64 A) := cell_of_heap mb rfl
  have m3 : w1.cell? ⟨w.heap.size, 3, none⟩ = some (.int .i64 B) := cell_of_heap mb rfl
  clear hk nb n0 n3 hB1 hb1 hbw1 mb h1
  go_wp2_with fail
  go_region_held3 (fun w' => w'.cell? ⟨b, 0, none⟩ = some (.pointer (some ⟨bw, 0, none⟩)) ∧ w'.cell? ⟨w.heap.size, 2, none⟩ = some (.int .i64 A) ∧ w'.cell? ⟨w.heap.size, 3, none⟩ = some (.int .i64 B)) (go_keep)
    (first | (go_at_call 15; refine (ppush (H1.out.both.below (Below.refl _ _).drew) A B hA hle).mono ?_; rintro e w2 ⟨rfl, mn', ms', hb2, hr2, hr3, ho2⟩
              have g2 : w2.heap[b]? = some (.cells #[.pointer (some ⟨bw, 0, none⟩), lv, .int .i64 wid, .int .i64 now] 27 (0, 0)) := ho2.heap (w := w1.drew) H1.out.blk H1.out.apart.1
              have o2 : w2.heap[w.heap.size]? = some (.cells #[.int .i64 1, .bool two, .int .i64 A, .int .i64 B] 30 (0, 0)) := ho2.heap (w := w1.drew) MB.out (fun q => by
                rcases q with (q | q) | (q | q)
                · exact kind_ne MB.out H1.out.both.n.blk (by decide) q
                · exact row_ne MB.out H1.out.both.n.own (by decide) q
                · exact kind_ne MB.out H1.out.both.s.blk (by decide) q
                · exact row_ne MB.out H1.out.both.s.own (by decide) q)
              have d0 : w2.cell? ⟨b, 0, none⟩ = some (.pointer (some ⟨bw, 0, none⟩)) := cell_of_heap g2 rfl
              have e2 : w2.cell? ⟨w.heap.size, 2, none⟩ = some (.int .i64 A) := cell_of_heap o2 rfl
              have e3 : w2.cell? ⟨w.heap.size, 3, none⟩ = some (.int .i64 B) := cell_of_heap o2 rfl))
  have d3 : w2.cell? ⟨b, 3, none⟩ = some (.int .i64 now) := cell_of_heap g2 rfl
  have f3 : w2.frozen? ⟨b, 3, none⟩ = false := frozen_of_heap g2
  have e0 : w2.cell? ⟨w.heap.size, 0, none⟩ = some (.int .i64 1) := cell_of_heap o2 rfl
  have nwb : ¬ w.heap.size = b := kind_ne o2 g2 (by decide)
  have nbw : ¬ b = w.heap.size := kind_ne g2 o2 (by decide)
  obtain ⟨la, lc, rfl⟩ := owns_slice H1.out.own
  have hmv := moved HB1.out H1.out hb2 ⟨ho2.os, ho2.tape, ho2.output, ho2.size, ho2.block⟩
  have HR2 : Hid _ := hr2
  have HR3 : Hid _ := hr3
  have O3 : Hid ((w2.setCell ⟨b, 3, none⟩ (.int .i64 A)).heap[w.heap.size]? = some (.cells #[.int .i64 1, .bool two, .int .i64 A, .int .i64 B] 30 (0, 0))) := heap_set_other o2 (kind_ne o2 g2 (by decide))
  have HMV : Hid _ := hmv
  clear hmv hr2 hr3 hb2 ho2 g2 o2 c0 m2 m3 d0
  generalize hln : l.length = n at *
  go_wp2_with fail
  go_quiet (fail)
  go_wp2_with fail
  obtain ⟨W3, hW3⟩ : ∃ W3, W3 = (w2.drewN nq).setCell ⟨b, 3, none⟩ (.int .i64 A) := ⟨_, rfl⟩
  rw [← hW3]
  have hG3 : W3.heap[b]? = some (.cells #[.pointer (some ⟨bw, 0, none⟩), .slice la n lc, .int .i64 wid, .int .i64 A] 27 (0, 0)) := by rw [hW3]; exact HMV.out.1
  have hR3 : W3.ownsRow 0 56 2 (.slice la n lc) n (sCells (Value.int .i64) l) := by rw [hW3]; exact HMV.out.2.1
  have hB3 : Both W3 bw Rn Rs wid A (trim wid A (keptR wid now l ++ [(A, B)])) mn' ms' := by rw [hW3]; exact HMV.out.2.2.1.below (below_drewN (Below.refl _ _) nq)
  have hO3 : Only (CasP b Rn Rs (.slice la n lc) mn ms) w W3 := by rw [hW3]; exact HMV.out.2.2.2.drewN nq
  have hP3 : W3.heap[w.heap.size]? = some (.cells #[.int .i64 1, .bool two, .int .i64 A, .int .i64 B] 30 (0, 0)) := by rw [hW3]; exact O3.out
  have k1 : W3.cell? ⟨b, 1, none⟩ = some (.slice la n lc) := cell_of_heap hG3 rfl
  have fk : W3.frozen? ⟨b, 1, none⟩ = false := frozen_of_heap hG3
  have k2 : W3.cell? ⟨w.heap.size, 2, none⟩ = some (.int .i64 A) := cell_of_heap hP3 rfl
  have k3 : W3.cell? ⟨w.heap.size, 3, none⟩ = some (.int .i64 B) := cell_of_heap hP3 rfl
  have k1a : ∀ o, (W3.alloc o).cell? ⟨b, 1, none⟩ = some (.slice la n lc) := cell_past k1
  have nlb : Hid ((Value.slice la n lc).ownBlock ≠ some b) := row_ne hG3 hR3 (by decide)
  have hRW : Hid (W3.ownsRow 0 56 2 (.slice la n lc) n (sCells (Value.int .i64) l)) := hR3
  have FIN : Hid (∀ (X wa : World) (ga ca : Nat), Below W3.heap.size W3 X → X.grownBy wa (Value.slice la n lc).ownBlock → wa.ownsRow 0 56 2 (.slice (some ⟨ga, 0, none⟩) (n + 1) ca) (n + 1) (sCells (Value.int .i64) l ++ [.int .i64 A, .int .i64 B]) → ((Value.slice la n lc).ownBlock = some ga ∨ W3.heap.size ≤ ga) → Stp w (wa.setCell ⟨b, 1, none⟩ (.slice (some ⟨ga, 0, none⟩) (n + 1) ca)) b wid l bw Rn Rs (.slice la n lc) mn ms) :=
    fun X wa ga ca bX hg ho ha => pushed_case hln H1.out.up H1.out.le H1.out.t64 hA hle hG3 (by rw [hln]; exact hR3) hB3 hO3 bX hg ho ha (Renew.mono HR2.out HB1.out.size) (Renew.mono HR3.out HB1.out.size)
  clear hW3 hG3 hR3 hB3 hO3 hP3 HMV O3 e0 e2 e3 d3 f3
  go_region_law (first
    | (refine step_append_lies _ (by rfl) (.tmp 62) (.tmp 68) _ (by rfl) 0 56 i0 (.agg #[.int .i64 0, .int .i64 0]) 2 16 Try.underlying25 hi0 hz0 hz1 hz2 rfl (by omega) (.slice la n lc) n (sCells (Value.int .i64) l) (by rfl) (by repeat (first | with_reducible exact hRW.out | with_reducible apply World.ownsRow.drew | with_reducible apply World.ownsRow.alloc)) ⟨_, 0, none⟩ 1 1 [.int .i64 A, .int .i64 B] (by rfl) (by rfl) (news2 (by repeat (first | with_reducible exact cell2_new_at (by simp) | with_reducible apply cell_drawn | with_reducible apply cell_past)) (by repeat (first | with_reducible exact cell2_new_at' (by simp) | with_reducible apply cell_drawn | with_reducible apply cell_past))) (two_one rfl rfl) (by omega) (by unfold maxLen; omega) (by omega) (by omega) _ (by rfl) ?_; intro ga ca wa hoA hgA hatA hltA; have k1A : wa.cell? ⟨b, 1, none⟩ = some (.slice la n lc) := cell_far hgA (by repeat (first | with_reducible exact k1 | with_reducible apply cell_drawn | with_reducible apply cell_past)) nlb.out; have fkA : wa.frozen? ⟨b, 1, none⟩ = false := frozen_far hgA ⟨_, (by repeat (first | with_reducible exact k1 | with_reducible apply cell_drawn | with_reducible apply cell_past))⟩ (by repeat (first | with_reducible exact fk | with_reducible apply frozen_drawn | with_reducible refine frozen_old ⟨_, (by repeat (first | with_reducible exact k1 | with_reducible apply cell_drawn | with_reducible apply cell_past))⟩ ?_)) nlb.out))
  all_goals
    have hS := FIN.out _ _ ga ca (by repeat (first | with_reducible exact Below.refl _ _ | with_reducible apply below_drawn | with_reducible apply below_past)) hgA hoA (by
      rcases hatA with q | q
      · exact .inl q
      · exact .inr (by rw [q]; first | (simp; done) | (simp; omega)))
    have HS : Hid _ := hS
    clear hS hgA hoA hatA hltA FIN k1 fk k2 k3 k1a
    go_wp2
    go_ret
    rw [hln]
    exact ⟨rfl, HS.out⟩
end Go.Proofs.Ytjcbbcnjnnpfoaa
