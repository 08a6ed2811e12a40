/-
  THE LAW Slides, WALKED.
-/
import Derived.Test.YtjcbbcnjnnpfoaaWinW
namespace Go.Proofs.Ytjcbbcnjnnpfoaa
open Go.RowKit Go.Lib Go.Shelf

/-- All blocks of a case. -/
abbrev CasS (b bw Rn Rs : Nat) (lv mn ms : Value) : Nat → Prop := fun x => x = b ∨ x = bw ∨ x = Rn ∨ x = Rs ∨ lv.ownBlock = some x ∨ mn.ownBlock = some x ∨ ms.ownBlock = some x
theorem Cas.lt {w : World} {b bw Rn Rs : Nat} {wid now : Int} {l : List (Int × Int)} {lv mn ms : Value} (h : Cas w b wid now l bw Rn Rs lv mn ms) : ∀ x, CasS b bw Rn Rs lv mn ms x → x < w.heap.size := by
  intro x q
  rcases q with q | q | q | q | q | q | q
  · subst q; exact heap_lt h.blk
  · subst q; exact heap_lt h.both.blk
  · subst q; exact heap_lt h.both.n.blk
  · subst q; exact heap_lt h.both.s.blk
  · exact (h.own.lt _ q).2
  · exact (h.both.n.own.lt _ q).2
  · exact (h.both.s.own.lt _ q).2
theorem casP_S {b bw Rn Rs : Nat} {lv mn ms : Value} {x : Nat} (q : CasP b Rn Rs lv mn ms x) : CasS b bw Rn Rs lv mn ms x := by
  rcases q with q | q | (q | q) | (q | q)
  · exact .inl q
  · exact .inr (.inr (.inr (.inr (.inl q))))
  · exact .inr (.inr (.inl q))
  · exact .inr (.inr (.inr (.inr (.inr (.inl q)))))
  · exact .inr (.inr (.inr (.inl q)))
  · exact .inr (.inr (.inr (.inr (.inr (.inr q)))))
theorem renew_S {sz b bw Rn Rs : Nat} {lv mn ms lv' mn' ms' : Value} (r1 : Renew sz lv lv') (r2 : Renew sz mn mn') (r3 : Renew sz ms ms') {x : Nat} (q : CasS b bw Rn Rs lv' mn' ms' x) : CasS b bw Rn Rs lv mn ms x ∨ sz ≤ x := by
  have one : ∀ {old new : Value}, Renew sz old new → new.ownBlock = some x → old.ownBlock = some x ∨ sz ≤ x := by
    intro old new r q
    rcases r with r | ⟨g, r, hg⟩
    · exact .inl (r ▸ q)
    · rw [q] at r; injection r with r; exact .inr (by omega)
  rcases q with q | q | q | q | q | q | q
  · exact .inl (.inl q)
  · exact .inl (.inr (.inl q))
  · exact .inl (.inr (.inr (.inl q)))
  · exact .inl (.inr (.inr (.inr (.inl q))))
  · exact (one r1 q).imp (fun q => .inr (.inr (.inr (.inr (.inl q))))) id
  · exact (one r2 q).imp (fun q => .inr (.inr (.inr (.inr (.inr (.inl q)))))) id
  · exact (one r3 q).imp (fun q => .inr (.inr (.inr (.inr (.inr (.inr q)))))) id
/-- Two cases, of which none turns the other. -/
def Two (w W : World) (i : Nat) (b bw Rn Rs : Nat) (wid : Int) (b' bw' Rn' Rs' : Nat) (wid' : Int) : Prop :=
  ∃ now l lv mn ms now' l' lv' mn' ms', Cas W b wid now l bw Rn Rs lv mn ms ∧ Cas W b' wid' now' l' bw' Rn' Rs' lv' mn' ms' ∧ (∀ x, CasS b bw Rn Rs lv mn ms x → ¬ CasS b' bw' Rn' Rs' lv' mn' ms' x) ∧
    (∀ x, CasS b bw Rn Rs lv mn ms x → w.heap.size ≤ x) ∧ (∀ x, CasS b' bw' Rn' Rs' lv' mn' ms' x → w.heap.size ≤ x) ∧ Below w.heap.size w W ∧ l.length ≤ i ∧ l'.length ≤ i
theorem Two.swap {w W : World} {i b bw Rn Rs b' bw' Rn' Rs' : Nat} {wid wid' : Int} (h : Two w W i b bw Rn Rs wid b' bw' Rn' Rs' wid') : Two w W i b' bw' Rn' Rs' wid' b bw Rn Rs wid := by
  obtain ⟨now, l, lv, mn, ms, now', l', lv', mn', ms', h1, h2, h3, h4, h5, h6, h7, h8⟩ := h
  exact ⟨now', l', lv', mn', ms', now, l, lv, mn, ms, h2, h1, fun x q q' => h3 x q' q, h5, h4, h6, h8, h7⟩
theorem Two.step {w W W' : World} {i b bw Rn Rs b' bw' Rn' Rs' : Nat} {wid wid' now' : Int} {l l' : List (Int × Int)} {lv mn ms lv' mn' ms' : Value} (h2 : Cas W b' wid' now' l' bw' Rn' Rs' lv' mn' ms') (h3 : ∀ x, CasS b bw Rn Rs lv mn ms x → ¬ CasS b' bw' Rn' Rs' lv' mn' ms' x)
    (h4 : ∀ x, CasS b bw Rn Rs lv mn ms x → w.heap.size ≤ x) (h5 : ∀ x, CasS b' bw' Rn' Rs' lv' mn' ms' x → w.heap.size ≤ x) (h6 : Below w.heap.size w W) (h7 : l.length ≤ i) (h8 : l'.length ≤ i) (hs : Stp W W' b wid l bw Rn Rs lv mn ms) : Two w W' (i + 1) b bw Rn Rs wid b' bw' Rn' Rs' wid' := by
  obtain ⟨nowN, lN, lvN, mnN, msN, hC, r1, r2, r3, ho, hl⟩ := hs
  have nP : ∀ x, CasS b' bw' Rn' Rs' lv' mn' ms' x → ¬ CasP b Rn Rs lv mn ms x := fun x q q' => h3 x (casP_S q') q
  refine ⟨nowN, lN, lvN, mnN, msN, now', l', lv', mn', ms', hC, ?_, fun x q q' => ?_, fun x q => ?_, h5, ?_, by omega, by omega⟩
  · exact h2.only ho (nP _ (.inl rfl)) (nP _ (.inr (.inl rfl))) (nP _ (.inr (.inr (.inl rfl)))) (nP _ (.inr (.inr (.inr (.inl rfl))))) (fun g hg => nP g (.inr (.inr (.inr (.inr (.inl hg)))))) (fun g hg => nP g (.inr (.inr (.inr (.inr (.inr (.inl hg))))))) (fun g hg => nP g (.inr (.inr (.inr (.inr (.inr (.inr hg)))))))
  · rcases renew_S r1 r2 r3 q with q | q
    · exact h3 x q q'
    · have := h2.lt x q'; omega
  · rcases renew_S r1 r2 r3 q with q | q
    · exact h4 x q
    · exact Nat.le_trans h6.size q
  · exact h6.trans (ho.below h6.size (fun x q => h4 x (casP_S q)))

theorem cell_below2 {w W : World} {a : Addr} {v : Value} (hb : Below w.heap.size w W) (h : w.cell? a = some v) : W.cell? a = some v := (World.cell?_of_block (hb.block a.block (World.block_lt_of_cell? w a h))).trans h
/-- A script in memory. -/
def Script (w : World) (sa : Option Addr) (ops : List (Int × Bool × Int × Int)) : Prop :=
  ∀ i k t a b, ops[i]? = some (k, t, a, b) → I64 a ∧ ∃ g off, sa = some ⟨g, off, none⟩ ∧ w.cell? ⟨g, off + i * 4, none⟩ = some (.int .i64 k) ∧ w.cell? ⟨g, off + i * 4 + 1, none⟩ = some (.bool t) ∧ w.cell? ⟨g, off + i * 4 + 2, none⟩ = some (.int .i64 a) ∧ w.cell? ⟨g, off + i * 4 + 3, none⟩ = some (.int .i64 b)

/-- A fresh case. -/
theorem fresh {W W' : World} {b bw Rn Rs : Nat} {wid : Int} (hb : W.heap[b]? = some (.cells #[.pointer none, .slice none 0 0, .int .i64 wid, .int .i64 (-9223372036854775808)] 27 (0, 0))) (hB : Below W.heap.size W W') (hB2 : Both W' bw Rn Rs wid (-9223372036854775808) [] (.slice none 0 0) (.slice none 0 0)) :
    Cas (W'.setCell ⟨b, 0, none⟩ (.pointer (some ⟨bw, 0, none⟩))) b wid (-9223372036854775808) [] bw Rn Rs (.slice none 0 0) (.slice none 0 0) (.slice none 0 0) := by
  have g := (hB.block b (heap_lt hb)).trans hb
  have o : Only (fun x => x = b) W' (W'.setCell ⟨b, 0, none⟩ (.pointer (some ⟨bw, 0, none⟩))) := (Only.refl (fun x => x = b) W').setCell (a := ⟨b, 0, none⟩) (fun _ => rfl) _
  refine ⟨heap_set_same (i := 0) (v := .pointer (some ⟨bw, 0, none⟩)) g, World.ownsRow_nil _ _ _ _, ?_, trivial, (fun x hx => by cases hx), (fun x hx => by cases hx)⟩
  exact hB2.only o (kind_ne hB2.blk g (by decide)) (kind_ne hB2.n.blk g (by decide)) (kind_ne hB2.s.blk g (by decide)) (fun g hg => by cases hg) (fun g hg => by cases hg)

set_option maxRecDepth 1000000 in
set_option maxHeartbeats 4000000 in
theorem law_Slides (w : World) (width other : Int) (h1 : I64 width) (h2 : I64 other) (sa : Option Addr) (sc : Nat) (ops : List (Int × Bool × Int × Int)) (hs : Script w sa ops) (hmax : ops.length ≤ 9223372036854775807) :
    Calls Try.prog 3 #[.int .i64 width, .int .i64 other, .slice sa ops.length sc] w fun e w' => e = .returned (.bool true) ∧ Below w.heap.size w w' := by
  have HS : Hid (Script w sa ops) := hs
  clear hs
  generalize hn : ops.length = n at *
  by_cases hbig : (1073741824 : Int) < n
  · go_enter Try.func3, Try.ntmps3
    go_wp2
    go_ret
    exact ⟨rfl, Below.refl _ _⟩
  have hB0 : Below w.heap.size w ((w.alloc (.cells #[.pointer none, .slice none 0 0, .int .i64 width, .int .i64 (-9223372036854775808)] 27)).alloc (.cells #[.pointer none, .slice none 0 0, .int .i64 other, .int .i64 (-9223372036854775808)] 27)) := ((Below.refl _ w).alloc (Nat.le_refl _) _).alloc (by simp) _
  have b0 := heap_alloc_old (o := .cells #[.pointer none, .slice none 0 0, .int .i64 other, .int .i64 (-9223372036854775808)] 27) (block_new w #[.pointer none, .slice none 0 0, .int .i64 width, .int .i64 (-9223372036854775808)] 27)
  have b1 := block_new (w.alloc (.cells #[.pointer none, .slice none 0 0, .int .i64 width, .int .i64 (-9223372036854775808)] 27)) #[.pointer none, .slice none 0 0, .int .i64 other, .int .i64 (-9223372036854775808)] 27
  rw [World.size_alloc] at b1
  have hz : ((w.alloc (.cells #[.pointer none, .slice none 0 0, .int .i64 width, .int .i64 (-9223372036854775808)] 27)).alloc (.cells #[.pointer none, .slice none 0 0, .int .i64 other, .int .i64 (-9223372036854775808)] 27)).heap.size = w.heap.size + 1 + 1 := by simp
  obtain ⟨W0, hW0⟩ : ∃ W0, W0 = ((w.alloc (.cells #[.pointer none, .slice none 0 0, .int .i64 width, .int .i64 (-9223372036854775808)] 27)).alloc (.cells #[.pointer none, .slice none 0 0, .int .i64 other, .int .i64 (-9223372036854775808)] 27)) := ⟨_, rfl⟩
  rw [← hW0] at hB0 b0 b1 hz
  have hp := pnew W0 width h1
  have hq := fun W => pnew W other h2
  have HB0 : Hid _ := hB0
  have B0 : Hid _ := b0
  have B1 : Hid _ := b1
  have HZ : Hid (W0.heap.size = w.heap.size + 1 + 1) := hz
  clear hB0 b0 b1 hz
  go_enter Try.func3, Try.ntmps3
  go_wp2_with fail
  rw [← hW0]
  clear hW0
  refine hp.mono ?_
  rintro e w1 ⟨bw, Rn, Rs, rfl, hb1, l1, l2, l3, hB1⟩
  have g1 := (hb1.block _ (heap_lt B0.out)).trans B0.out
  have c1 := cell_of_heap (i := 0) g1 rfl
  have f1 := frozen_of_heap (i := 0) g1
  have C1 : Hid (Cas (w1.setCell ⟨w.heap.size, 0, none⟩ (.pointer (some ⟨bw, 0, none⟩))) w.heap.size width (-9223372036854775808) [] bw Rn Rs (.slice none 0 0) (.slice none 0 0) (.slice none 0 0)) := fresh B0.out hb1 hB1
  have G2 : Hid ((w1.setCell ⟨w.heap.size, 0, none⟩ (.pointer (some ⟨bw, 0, none⟩))).heap[w.heap.size + 1]? = _) := heap_set_other ((hb1.block _ (heap_lt B1.out)).trans B1.out) (by simp)
  have HBW1 : Hid (Below w.heap.size w (w1.setCell ⟨w.heap.size, 0, none⟩ (.pointer (some ⟨bw, 0, none⟩)))) := (HB0.out.trans (hb1.mono HB0.out.size)).setCell (p := ⟨w.heap.size, 0, none⟩) (Nat.le_refl _) _
  have L1 : Hid (w.heap.size + 1 < bw ∧ w.heap.size + 1 < Rn ∧ w.heap.size + 1 < Rs) := by have := HZ.out; exact ⟨by omega, by omega, by omega⟩
  clear hp hb1 l1 l2 l3 hB1 g1
  obtain ⟨W1, hW1⟩ : ∃ W1, W1 = w1.setCell ⟨w.heap.size, 0, none⟩ (.pointer (some ⟨bw, 0, none⟩)) := ⟨_, rfl⟩
  rw [← hW1] at C1 G2 HBW1
  have hq := hq W1
  go_wp2_with fail
  rw [← hW1]
  clear hW1 c1 f1
  refine hq.mono ?_
  rintro e w2 ⟨bw', Rn', Rs', rfl, hb2, l1, l2, l3, hB2⟩
  have g2 := (hb2.block _ (heap_lt G2.out)).trans G2.out
  have c2 := cell_of_heap (i := 0) g2 rfl
  have f2 := frozen_of_heap (i := 0) g2
  have C2 : Cas (w2.setCell ⟨w.heap.size + 1, 0, none⟩ (.pointer (some ⟨bw', 0, none⟩))) (w.heap.size + 1) other (-9223372036854775808) [] bw' Rn' Rs' (.slice none 0 0) (.slice none 0 0) (.slice none 0 0) := fresh G2.out hb2 hB2
  have K1 : Cas w2 w.heap.size width (-9223372036854775808) [] bw Rn Rs (.slice none 0 0) (.slice none 0 0) (.slice none 0 0) := C1.out.below hb2
  have K2 : Cas (w2.setCell ⟨w.heap.size + 1, 0, none⟩ (.pointer (some ⟨bw', 0, none⟩))) w.heap.size width (-9223372036854775808) [] bw Rn Rs (.slice none 0 0) (.slice none 0 0) (.slice none 0 0) := by
    obtain ⟨m1, m2, m3⟩ := L1.out
    exact K1.only (P := fun x => x = w.heap.size + 1) ((Only.refl (fun x => x = w.heap.size + 1) w2).setCell (a := ⟨w.heap.size + 1, 0, none⟩) (fun _ => rfl) _) (by omega) (by omega) (by omega) (by omega) (fun g hg => by cases hg) (fun g hg => by cases hg) (fun g hg => by cases hg)
  have d1 : w2.cell? ⟨w.heap.size, 0, none⟩ = some (.pointer (some ⟨bw, 0, none⟩)) := cell_of_heap K1.blk rfl
  have T0 : Hid (Two w (w2.setCell ⟨w.heap.size + 1, 0, none⟩ (.pointer (some ⟨bw', 0, none⟩))) 0 w.heap.size bw Rn Rs width (w.heap.size + 1) bw' Rn' Rs' other) := by
    obtain ⟨m1, m2, m3⟩ := L1.out
    have n1 := HBW1.out.size
    refine ⟨_, _, _, _, _, _, _, _, _, _, K2, C2, fun x q q' => ?_, fun x q => ?_, fun x q => ?_, (HBW1.out.trans (hb2.mono HBW1.out.size)).setCell (p := ⟨w.heap.size + 1, 0, none⟩) (by simp) _, by simp, by simp⟩
    · have hx := C1.out.lt x q
      rcases q' with q' | q' | q' | q' | q' | q' | q'
      · rcases q with q | q | q | q | q | q | q
        all_goals first | omega | cases q
      all_goals first | omega | cases q'
    · rcases q with q | q | q | q | q | q | q
      all_goals first | omega | cases q
    · rcases q with q | q | q | q | q | q | q
      all_goals first | omega | cases q
  clear hq hb2 l1 l2 l3 hB2 g2 K1 K2 C2 C1 G2 HBW1 L1
  have d2 : (w2.setCell ⟨w.heap.size + 1, 0, none⟩ (.pointer (some ⟨bw', 0, none⟩))).cell? ⟨w.heap.size + 1, 0, none⟩ = some (.pointer (some ⟨bw', 0, none⟩)) := World.cell?_setCell_same' _ _ _ (by rw [c2]; rfl)
  go_wp2_with fail
  obtain ⟨W2, hW2⟩ : ∃ W2, W2 = w2.setCell ⟨w.heap.size + 1, 0, none⟩ (.pointer (some ⟨bw', 0, none⟩)) := ⟨_, rfl⟩
  rw [← hW2] at T0 ⊢
  clear hW2 c2 f2 d1 d2
  go_loopw [9] (fun v9 wr => ∃ i : Nat, v9 = .int .i64 i ∧ i ≤ n ∧ Hid (Two w wr i w.heap.size bw Rn Rs width (w.heap.size + 1) bw' Rn' Rs' other)) (fun v9 _ => n - (intOf v9).toNat)
  case atStart => exact ⟨0, rfl, Nat.zero_le _, T0⟩
  case round =>
    obtain ⟨i, rfl, hi, HT⟩ := hrel
    clear T0
    rcases Nat.lt_or_ge i n with hlt | hge
    · obtain ⟨x, hx⟩ : ∃ x, ops[i]? = some x := ⟨ops[i], List.getElem?_eq_getElem (by omega)⟩
      obtain ⟨kind, two, A, B⟩ := x
      obtain ⟨hA, g, off, rfl, q0, q1, q2, q3⟩ := HS.out i kind two A B hx
      have hlt2 : (i : Int) < n := by omega
      cases two with
      | false =>
        obtain ⟨now, l, lv, mn, ms, now', l', lv', mn', ms', t1, t2, t3, t4, t5, t6, t7, t8⟩ := HT.out
        have hst := law_step t1 kind false A B hA (by omega)
        have r0 := (cell_below2 t6 q0)
        have r1 := (cell_below2 t6 q1)
        have r2 := (cell_below2 t6 q2)
        have r3 := (cell_below2 t6 q3)
        have NX : Hid (∀ W', Stp wr W' w.heap.size width l bw Rn Rs lv mn ms → Two w W' (i + 1) w.heap.size bw Rn Rs width (w.heap.size + 1) bw' Rn' Rs' other) := fun W' hs => Two.step t2 t3 t4 t5 t6 t7 t8 hs
        clear t1 t2 t3 t4 t5 t6 t7 t8 q0 q1 q2 q3 hx HT
        go_wp2_with fail
        refine hst.mono ?_
        rintro e w3 ⟨rfl, hs3⟩
        have T3 : Hid _ := NX.out w3 hs3
        clear hst hs3 NX r0 r1 r2 r3
        go_wp2
        go_roundw
        case rel => exact ⟨i + 1, by go_num, by omega, T3⟩
        case measure => simp [intOf]; omega
      | true =>
        obtain ⟨now, l, lv, mn, ms, now', l', lv', mn', ms', t1, t2, t3, t4, t5, t6, t7, t8⟩ := HT.out.swap
        have hst := law_step t1 kind true A B hA (by omega)
        have r0 := (cell_below2 t6 q0)
        have r1 := (cell_below2 t6 q1)
        have r2 := (cell_below2 t6 q2)
        have r3 := (cell_below2 t6 q3)
        have NX : Hid (∀ W', Stp wr W' (w.heap.size + 1) other l bw' Rn' Rs' lv mn ms → Two w W' (i + 1) w.heap.size bw Rn Rs width (w.heap.size + 1) bw' Rn' Rs' other) := fun W' hs => (Two.step t2 t3 t4 t5 t6 t7 t8 hs).swap
        clear t1 t2 t3 t4 t5 t6 t7 t8 q0 q1 q2 q3 hx HT
        go_wp2_with fail
        refine hst.mono ?_
        rintro e w3 ⟨rfl, hs3⟩
        have T3 : Hid _ := NX.out w3 hs3
        clear hst hs3 NX r0 r1 r2 r3
        go_wp2
        go_roundw
        case rel => exact ⟨i + 1, by go_num, by omega, T3⟩
        case measure => simp [intOf]; omega
    · have hge2 : ¬ (i : Int) < n := by omega
      have HB : Hid (Below w.heap.size w wr) := by obtain ⟨_, _, _, _, _, _, _, _, _, _, _, _, _, _, _, h, _⟩ := HT.out; exact h
      go_wp2
      go_ret
      exact ⟨rfl, HB.out⟩
end Go.Proofs.Ytjcbbcnjnnpfoaa
