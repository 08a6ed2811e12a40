/-
  THE LAW's moves, the other ways, WALKED.
-/
import Derived.Test.YtjcbbcnjnnpfoaaWinL
namespace Go.Proofs.Ytjcbbcnjnnpfoaa
open Go.RowKit Go.Lib Go.Shelf

set_option maxRecDepth 1000000 in
set_option maxHeartbeats 2000000 in
theorem law_pushLate {w : World} {b bw Rn Rs : Nat} {wid now : Int} {l : List (Int × Int)} {lv mn ms : Value} (h : Cas w b wid now l bw Rn Rs lv mn ms) (two : Bool) (A B : Int) (hlt : A < now) :
    Calls Try.prog 8 #[.pointer (some ⟨b, 0, none⟩), opVal 1 two A B] w fun e w' => e = .returned (.bool true) ∧ Stp w w' b wid l bw Rn Rs lv mn ms := by
  have hk : ∀ W, _ := fun W => ref_key B W
  have nb : (w.alloc (.cells #[.int .i64 1, .bool two, .int .i64 A, .int .i64 B] 30)).heap[w.heap.size]? = some (.cells #[.int .i64 1, .bool two, .int .i64 A, .int .i64 B] 30 (0, 0)) := block_new _ _ _
  have n0 := cell_of_heap (i := 0) nb rfl
  have n3 := cell_of_heap (i := 3) nb rfl
  have hB1 := (Below.refl w.heap.size w).alloc (Nat.le_refl _) (.cells #[.int .i64 1, .bool two, .int .i64 A, .int .i64 B] 30)
  have H : Hid (Cas w b wid now l bw Rn Rs lv mn ms) := h
  clear h
  go_enter Try.func8, Try.ntmps8
  go_wp2_with fail
  refine (hk _).mono ?_
  rintro e w1 ⟨rfl, hb1⟩
  have hbw1 : Below w.heap.size w w1 := hB1.trans (hb1.mono (by simp))
  have mb : w1.heap[w.heap.size]? = _ := (hb1.block _ (heap_lt nb)).trans nb
  have h1 := H.out.below hbw1
  have HB1 : Hid (Below w.heap.size w w1) := hbw1
  have H1 : Hid (Cas w1 b wid now l bw Rn Rs lv mn ms) := h1
  have c0 : w1.cell? ⟨b, 0, none⟩ = some (.pointer (some ⟨bw, 0, none⟩)) := cell_of_heap h1.blk rfl
  have c3 : w1.cell? ⟨b, 3, none⟩ = some (.int .i64 now) := cell_of_heap h1.blk rfl
  have m2 : w1.cell? ⟨w.heap.size, 2, none⟩ = some (.int .i64 A) := cell_of_heap mb rfl
  have m3 : w1.cell? ⟨w.heap.size, 3, none⟩ = some (.int .i64 B) := cell_of_heap mb rfl
  clear hk nb n0 n3 hB1 hb1 hbw1 mb h1
  go_wp2_with fail
  go_region_held3 (fun w' => w'.cell? ⟨b, 0, none⟩ = some (.pointer (some ⟨bw, 0, none⟩)) ∧ w'.cell? ⟨w.heap.size, 2, none⟩ = some (.int .i64 A) ∧ w'.cell? ⟨w.heap.size, 3, none⟩ = some (.int .i64 B)) (go_keep)
    (first | (go_at_call 15; refine (ppushLate (H1.out.both.below (Below.refl _ _).drew) A B _ hlt).mono ?_; rintro e w2 ⟨rfl, rfl⟩))
  all_goals
    go_wp2_with fail
    go_quiet (fail)
    go_wp2
    go_ret
    exact ⟨rfl, H.out.stay (below_drewN HB1.out _)⟩

set_option maxRecDepth 1000000 in
set_option maxHeartbeats 2000000 in
theorem law_advLate {w : World} {b bw Rn Rs : Nat} {wid now : Int} {l : List (Int × Int)} {lv mn ms : Value} (h : Cas w b wid now l bw Rn Rs lv mn ms) (kind : Int) (hkd : kind ≠ 1) (two : Bool) (A B : Int) (hlt : A < now) :
    Calls Try.prog 8 #[.pointer (some ⟨b, 0, none⟩), opVal kind two A B] w fun e w' => e = .returned (.bool true) ∧ Stp w w' b wid l bw Rn Rs lv mn ms := by
  have hkb : (kind == 1) = false := beq_eq_false_iff_ne.2 hkd
  have nb : (w.alloc (.cells #[.int .i64 kind, .bool two, .int .i64 A, .int .i64 B] 30)).heap[w.heap.size]? = some (.cells #[.int .i64 kind, .bool two, .int .i64 A, .int .i64 B] 30 (0, 0)) := block_new _ _ _
  have n0 := cell_of_heap (i := 0) nb rfl
  have hB1 := (Below.refl w.heap.size w).alloc (Nat.le_refl _) (.cells #[.int .i64 kind, .bool two, .int .i64 A, .int .i64 B] 30)
  have H : Hid (Cas w b wid now l bw Rn Rs lv mn ms) := h
  have h1 := h.below hB1
  obtain ⟨w1, hw1⟩ : ∃ w1, w1 = w.alloc (.cells #[.int .i64 kind, .bool two, .int .i64 A, .int .i64 B] 30) := ⟨_, rfl⟩
  rw [← hw1] at nb n0 hB1 h1
  have HB1 : Hid (Below w.heap.size w w1) := hB1
  have H1 : Hid (Cas w1 b wid now l bw Rn Rs lv mn ms) := h1
  have c0 : w1.cell? ⟨b, 0, none⟩ = some (.pointer (some ⟨bw, 0, none⟩)) := cell_of_heap h1.blk rfl
  have c3 : w1.cell? ⟨b, 3, none⟩ = some (.int .i64 now) := cell_of_heap h1.blk rfl
  have m2 : w1.cell? ⟨w.heap.size, 2, none⟩ = some (.int .i64 A) := cell_of_heap nb rfl
  have n0' : (w.alloc (.cells #[.int .i64 kind, .bool two, .int .i64 A, .int .i64 B] 30)).cell? ⟨w.heap.size, 0, none⟩ = some (.int .i64 kind) := cell_of_heap (block_new _ _ _) rfl
  clear nb n0 hB1 h1 h
  go_enter Try.func8, Try.ntmps8
  go_wp2_with fail
  rw [← hw1]
  clear hw1 n0'
  go_region_held3 (fun w' => w'.cell? ⟨b, 0, none⟩ = some (.pointer (some ⟨bw, 0, none⟩)) ∧ w'.cell? ⟨w.heap.size, 2, none⟩ = some (.int .i64 A)) (go_keep)
    (first | (go_at_call 16; refine (plate (H1.out.both.below (Below.refl _ _).drew) A hlt).mono ?_; rintro e w2 ⟨rfl, rfl⟩))
  all_goals
    go_wp2_with fail
    go_quiet (fail)
    go_wp2
    go_ret
    exact ⟨rfl, H.out.stay (below_drewN HB1.out _)⟩

set_option maxRecDepth 1000000 in
set_option maxHeartbeats 2000000 in
theorem law_adv {w : World} {b bw Rn Rs : Nat} {wid now : Int} {l : List (Int × Int)} {lv mn ms : Value} (h : Cas w b wid now l bw Rn Rs lv mn ms) (kind : Int) (hkd : kind ≠ 1) (two : Bool) (A B : Int) (hA : I64 A) (hle : now ≤ A) :
    Calls Try.prog 8 #[.pointer (some ⟨b, 0, none⟩), opVal kind two A B] w fun e w' => e = .returned (.bool true) ∧ Stp w w' b wid l bw Rn Rs lv mn ms := by
  have hkb : (kind == 1) = false := beq_eq_false_iff_ne.2 hkd
  have hnl : ¬ A < now := by omega
  have nb : (w.alloc (.cells #[.int .i64 kind, .bool two, .int .i64 A, .int .i64 B] 30)).heap[w.heap.size]? = some (.cells #[.int .i64 kind, .bool two, .int .i64 A, .int .i64 B] 30 (0, 0)) := block_new _ _ _
  have hB1 := (Below.refl w.heap.size w).alloc (Nat.le_refl _) (.cells #[.int .i64 kind, .bool two, .int .i64 A, .int .i64 B] 30)
  have H : Hid (Cas w b wid now l bw Rn Rs lv mn ms) := h
  have h1 := h.below hB1
  obtain ⟨w1, hw1⟩ : ∃ w1, w1 = w.alloc (.cells #[.int .i64 kind, .bool two, .int .i64 A, .int .i64 B] 30) := ⟨_, rfl⟩
  rw [← hw1] at nb hB1 h1
  have HB1 : Hid (Below w.heap.size w w1) := hB1
  have MB : Hid (w1.heap[w.heap.size]? = some (.cells #[.int .i64 kind, .bool two, .int .i64 A, .int .i64 B] 30 (0, 0))) := nb
  have H1 : Hid (Cas w1 b wid now l bw Rn Rs lv mn ms) := h1
  have c0 : w1.cell? ⟨b, 0, none⟩ = some (.pointer (some ⟨bw, 0, none⟩)) := cell_of_heap h1.blk rfl
  have m2 : w1.cell? ⟨w.heap.size, 2, none⟩ = some (.int .i64 A) := cell_of_heap nb rfl
  have n0' : (w.alloc (.cells #[.int .i64 kind, .bool two, .int .i64 A, .int .i64 B] 30)).cell? ⟨w.heap.size, 0, none⟩ = some (.int .i64 kind) := cell_of_heap (block_new _ _ _) rfl
  clear nb hB1 h1 h
  go_enter Try.func8, Try.ntmps8
  go_wp2_with fail
  rw [← hw1]
  clear hw1 n0'
  go_region_held3 (fun w' => w'.cell? ⟨b, 0, none⟩ = some (.pointer (some ⟨bw, 0, none⟩)) ∧ w'.cell? ⟨w.heap.size, 2, none⟩ = some (.int .i64 A)) (go_keep)
    (first | (go_at_call 16; refine (padvance (H1.out.both.below (Below.refl _ _).drew) A hA hle).mono ?_; rintro e w2 ⟨rfl, mn', ms', hb2, hr2, hr3, ho2⟩
              have g2 : w2.heap[b]? = some (.cells #[.pointer (some ⟨bw, 0, none⟩), lv, .int .i64 wid, .int .i64 now] 27 (0, 0)) := ho2.heap (w := w1.drew) H1.out.blk H1.out.apart.1
              have o2 : w2.heap[w.heap.size]? = some (.cells #[.int .i64 kind, .bool two, .int .i64 A, .int .i64 B] 30 (0, 0)) := ho2.heap (w := w1.drew) MB.out (fun q => by
                rcases q with (q | q) | (q | q)
                · exact kind_ne MB.out H1.out.both.n.blk (by decide) q
                · exact row_ne MB.out H1.out.both.n.own (by decide) q
                · exact kind_ne MB.out H1.out.both.s.blk (by decide) q
                · exact row_ne MB.out H1.out.both.s.own (by decide) q)
              have d0 : w2.cell? ⟨b, 0, none⟩ = some (.pointer (some ⟨bw, 0, none⟩)) := cell_of_heap g2 rfl
              have e2 : w2.cell? ⟨w.heap.size, 2, none⟩ = some (.int .i64 A) := cell_of_heap o2 rfl))
  have d3 : w2.cell? ⟨b, 3, none⟩ = some (.int .i64 now) := cell_of_heap g2 rfl
  have f3 : w2.frozen? ⟨b, 3, none⟩ = false := frozen_of_heap g2
  have e0 : w2.cell? ⟨w.heap.size, 0, none⟩ = some (.int .i64 kind) := cell_of_heap o2 rfl
  have nwb : ¬ w.heap.size = b := kind_ne o2 g2 (by decide)
  have nbw : ¬ b = w.heap.size := kind_ne g2 o2 (by decide)
  have hmv := moved HB1.out H1.out hb2 ⟨ho2.os, ho2.tape, ho2.output, ho2.size, ho2.block⟩
  have FIN : Hid (Stp w (w2.setCell ⟨b, 3, none⟩ (.int .i64 A)) b wid l bw Rn Rs lv mn ms) := by
    obtain ⟨q1, q2, q3, q4⟩ := hmv
    rw [trim_advance H1.out.up hle] at q3
    exact ⟨A, l, lv, mn', ms', ⟨q1, q2, q3, H1.out.up, H1.out.le.mono hle, H1.out.t64⟩, .inl rfl, Renew.mono hr2 HB1.out.size, Renew.mono hr3 HB1.out.size, q4, by omega⟩
  clear hmv hr2 hr3 hb2 ho2 g2 o2 c0 m2 d0
  go_wp2_with fail
  go_quiet (fail)
  go_wp2
  go_ret
  refine ⟨rfl, ?_⟩
  obtain ⟨now', l', lv', mn'', ms'', hC, r1, r2, r3, ho, hl⟩ := FIN.out
  exact ⟨now', l', lv', mn'', ms'', hC.below (below_drewN (Below.refl _ _) _), r1, r2, r3, ho.drewN _, hl⟩
end Go.Proofs.Ytjcbbcnjnnpfoaa
