/-
  THE LAW's step, WALKED.
-/
import Derived.Test.YtjcbbcnjnnpfoaaWinV
namespace Go.Proofs.Ytjcbbcnjnnpfoaa
open Go.RowKit Go.Lib Go.Shelf

theorem Stp.from {w w1 w' : World} {b bw Rn Rs : Nat} {wid : Int} {l : List (Int × Int)} {lv mn ms : Value} (hb : Below w.heap.size w w1) (h : Stp w1 w' b wid l bw Rn Rs lv mn ms) : Stp w w' b wid l bw Rn Rs lv mn ms := by
  obtain ⟨now', l', lv', mn', ms', hC, r1, r2, r3, ho, hl⟩ := h
  exact ⟨now', l', lv', mn', ms', hC, Renew.mono r1 hb.size, Renew.mono r2 hb.size, Renew.mono r3 hb.size, (Only.of_below hb).trans ho (fun _ _ q => q), hl⟩

set_option maxRecDepth 1000000 in
set_option maxHeartbeats 2000000 in
theorem law_moves {w : World} {b bw Rn Rs : Nat} {wid now : Int} {l : List (Int × Int)} {lv mn ms : Value} (h : Cas w b wid now l bw Rn Rs lv mn ms) (kind : Int) (two : Bool) (A B : Int) (hA : I64 A) (hll : l.length ≤ 1073741824) :
    Calls Try.prog 8 #[.pointer (some ⟨b, 0, none⟩), opVal kind two A B] w fun e w' => e = .returned (.bool true) ∧ Stp w w' b wid l bw Rn Rs lv mn ms := by
  by_cases hk : kind = 1
  · subst hk
    rcases Int.lt_or_le A now with hlt | hge
    · exact law_pushLate h two A B hlt
    · exact law_push h two A B hA hge hll
  · rcases Int.lt_or_le A now with hlt | hge
    · exact law_advLate h kind hk two A B hlt
    · exact law_adv h kind hk two A B hA hge

set_option maxRecDepth 1000000 in
set_option maxHeartbeats 4000000 in
theorem law_step {w : World} {b bw Rn Rs : Nat} {wid now : Int} {l : List (Int × Int)} {lv mn ms : Value} (h : Cas w b wid now l bw Rn Rs lv mn ms) (kind : Int) (two : Bool) (A B : Int) (hA : I64 A) (hll : l.length ≤ 1073741824) :
    Calls Try.prog 5 #[.pointer (some ⟨b, 0, none⟩), opVal kind two A B] w fun e w' => e = .returned (.bool true) ∧ Stp w w' b wid l bw Rn Rs lv mn ms := by
  have nb : (w.alloc (.cells #[.int .i64 kind, .bool two, .int .i64 A, .int .i64 B] 30)).heap[w.heap.size]? = some (.cells #[.int .i64 kind, .bool two, .int .i64 A, .int .i64 B] 30 (0, 0)) := block_new _ _ _
  have n0 : (w.alloc (.cells #[.int .i64 kind, .bool two, .int .i64 A, .int .i64 B] 30)).cell? ⟨w.heap.size, 0, none⟩ = some (.int .i64 kind) := cell_of_heap nb rfl
  have n1 : (w.alloc (.cells #[.int .i64 kind, .bool two, .int .i64 A, .int .i64 B] 30)).cell? ⟨w.heap.size, 1, none⟩ = some (.bool two) := cell_of_heap nb rfl
  have n2 : (w.alloc (.cells #[.int .i64 kind, .bool two, .int .i64 A, .int .i64 B] 30)).cell? ⟨w.heap.size, 2, none⟩ = some (.int .i64 A) := cell_of_heap nb rfl
  have n3 : (w.alloc (.cells #[.int .i64 kind, .bool two, .int .i64 A, .int .i64 B] 30)).cell? ⟨w.heap.size, 3, none⟩ = some (.int .i64 B) := cell_of_heap nb rfl
  have hB1 := (Below.refl w.heap.size w).alloc (Nat.le_refl _) (.cells #[.int .i64 kind, .bool two, .int .i64 A, .int .i64 B] 30)
  have h1 := h.below hB1
  have HB1 : Hid _ := hB1
  have H1 : Hid _ := h1
  clear nb hB1 h h1
  by_cases k1 : kind = 1
  · subst k1
    have hm := law_moves H1.out 1 two A B hA hll
    go_enter Try.func5, Try.ntmps5
    go_wp2_with fail
    refine hm.mono ?_
    rintro e w2 ⟨rfl, hs⟩
    have HS : Hid _ := hs.from HB1.out
    clear hs hm
    go_wp2
    go_ret
    exact ⟨rfl, HS.out⟩
  have b1 : (kind == 1) = false := beq_eq_false_iff_ne.2 k1
  by_cases k2 : kind = 2
  · subst k2
    have hm := law_moves H1.out 2 two A B hA hll
    go_enter Try.func5, Try.ntmps5
    go_wp2_with fail
    refine hm.mono ?_
    rintro e w2 ⟨rfl, hs⟩
    have HS : Hid _ := hs.from HB1.out
    clear hs hm
    go_wp2
    go_ret
    exact ⟨rfl, HS.out⟩
  have b2 : (kind == 2) = false := beq_eq_false_iff_ne.2 k2
  by_cases k3 : kind = 3
  · subst k3
    obtain ⟨W, hW⟩ : ∃ W, W = w.alloc (.cells #[.int .i64 3, .bool two, .int .i64 A, .int .i64 B] 30) := ⟨_, rfl⟩
    have h1 := H1.out
    have hb1 := HB1.out
    rw [← hW] at h1 hb1
    have c0 : W.cell? ⟨b, 0, none⟩ = some (.pointer (some ⟨bw, 0, none⟩)) := cell_of_heap h1.blk rfl
    have c1 : W.cell? ⟨b, 1, none⟩ = some lv := cell_of_heap h1.blk rfl
    have c2 : W.cell? ⟨b, 2, none⟩ = some (.int .i64 wid) := cell_of_heap h1.blk rfl
    have c3 : W.cell? ⟨b, 3, none⟩ = some (.int .i64 now) := cell_of_heap h1.blk rfl
    have hkp : ∀ X, Below W.heap.size W X → _ := fun X hb => ref_kept (h1.below hb).own hll h1.both.n.wid64 h1.both.n.tm64 h1.t64
    obtain ⟨la, lc, rfl⟩ := owns_slice h1.own
    have G1 : Hid (Cas W b wid now l bw Rn Rs (.slice la l.length lc) mn ms) := h1
    have HKP : Hid _ := hkp
    have HBW : Hid (Below w.heap.size w W) := hb1
    clear h1 hb1 hkp H1 HB1
    generalize hln : l.length = n at *
    go_enter Try.func5, Try.ntmps5
    go_wp2_with fail
    rw [← hW]
    clear hW n0 n1 n2 n3
    go_region_held3 (fun w' => w'.cell? ⟨b, 1, none⟩ = some (.slice la n lc) ∧ w'.cell? ⟨b, 2, none⟩ = some (.int .i64 wid) ∧ w'.cell? ⟨b, 3, none⟩ = some (.int .i64 now)) (go_keep)
      (first | (go_at_call 9; refine (HKP.out _ (Below.refl _ _).drew).mono ?_; rintro e w1 ⟨kv, rfl, hko, hkb⟩
                have hb1 : Below W.heap.size W w1 := (below_drawn (Below.refl _ W)).trans hkb
                have g1 := (G1.out.below hb1).blk
                have a1 : w1.cell? ⟨b, 1, none⟩ = some (.slice la n lc) := cell_of_heap g1 rfl
                have a2 : w1.cell? ⟨b, 2, none⟩ = some (.int .i64 wid) := cell_of_heap g1 rfl
                have a3 : w1.cell? ⟨b, 3, none⟩ = some (.int .i64 now) := cell_of_heap g1 rfl))
    have a0 : w1.cell? ⟨b, 0, none⟩ = some (.pointer (some ⟨bw, 0, none⟩)) := cell_of_heap g1 rfl
    obtain ⟨ka, kc, rfl⟩ := owns_slice hko
    have hle := plen (G1.out.below hb1).both
    have HB1 : Hid (Below W.heap.size W w1) := hb1
    clear hko hkb hb1 g1 a1 a2 a3 c0 c1 c2 c3 HKP
    generalize hkl : (keptR wid now l).length = m at *
    go_wp2_with fail
    refine hle.mono ?_
    rintro e w2 ⟨rfl, hb2⟩
    have HS : Hid (Stp w w2 b wid l bw Rn Rs (.slice la n lc) mn ms) := (G1.out.stay (HB1.out.trans (hb2.mono HB1.out.size))).from HBW.out
    clear hb2 hle
    go_wp2
    go_ret
    exact ⟨rfl, HS.out⟩
  have b3 : (kind == 3) = false := beq_eq_false_iff_ne.2 k3
  by_cases k4 : kind = 4
  · subst k4
    have hm := law_ends H1.out hll false
    go_enter Try.func5, Try.ntmps5
    go_wp2_with fail
    refine hm.mono ?_
    rintro e w2 ⟨rfl, hs⟩
    have HS : Hid _ := (H1.out.stay hs).from HB1.out
    clear hs hm
    go_wp2
    go_ret
    exact ⟨rfl, HS.out⟩
  have b4 : (kind == 4) = false := beq_eq_false_iff_ne.2 k4
  by_cases k5 : kind = 5
  · subst k5
    have hm := law_ends H1.out hll true
    go_enter Try.func5, Try.ntmps5
    go_wp2_with fail
    refine hm.mono ?_
    rintro e w2 ⟨rfl, hs⟩
    have HS : Hid _ := (H1.out.stay hs).from HB1.out
    clear hs hm
    go_wp2
    go_ret
    exact ⟨rfl, HS.out⟩
  have b5 : (kind == 5) = false := beq_eq_false_iff_ne.2 k5
  by_cases k6 : kind = 6
  · subst k6
    have hm := law_all H1.out hll A
    go_enter Try.func5, Try.ntmps5
    go_wp2_with fail
    refine hm.mono ?_
    rintro e w2 ⟨rfl, hs⟩
    have HS : Hid _ := (H1.out.stay hs).from HB1.out
    clear hs hm
    go_wp2
    go_ret
    exact ⟨rfl, HS.out⟩
  have b6 : (kind == 6) = false := beq_eq_false_iff_ne.2 k6
  by_cases k7 : kind = 7
  · subst k7
    have hm := law_fold H1.out hll
    go_enter Try.func5, Try.ntmps5
    go_wp2_with fail
    refine hm.mono ?_
    rintro e w2 ⟨rfl, hs⟩
    have HS : Hid _ := (H1.out.stay hs).from HB1.out
    clear hs hm
    go_wp2
    go_ret
    exact ⟨rfl, HS.out⟩
  have b7 : (kind == 7) = false := beq_eq_false_iff_ne.2 k7
  clear k1 k2 k3 k4 k5 k6 k7
  go_enter Try.func5, Try.ntmps5
  go_wp2
  go_ret
  exact ⟨rfl, (H1.out.stay (Below.refl _ _)).from HB1.out⟩
end Go.Proofs.Ytjcbbcnjnnpfoaa
