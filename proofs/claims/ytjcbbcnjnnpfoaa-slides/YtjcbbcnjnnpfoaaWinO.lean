/-
  THE LAW's all, WALKED.
-/
import Derived.Test.YtjcbbcnjnnpfoaaWinN
namespace Go.Proofs.Ytjcbbcnjnnpfoaa
open Go.RowKit Go.Lib Go.Shelf

set_option maxRecDepth 1000000 in
set_option maxHeartbeats 4000000 in
theorem law_all {w : World} {b bw Rn Rs : Nat} {wid now : Int} {l : List (Int × Int)} {lv mn ms : Value} (h : Cas w b wid now l bw Rn Rs lv mn ms) (hll : l.length ≤ 1073741824) (n0 : Int) :
    Calls Try.prog 12 #[.pointer (some ⟨b, 0, none⟩), .int .i64 n0] w fun e w' => e = .returned (.bool true) ∧ Below w.heap.size w w' := by
  have c0 : w.cell? ⟨b, 0, none⟩ = some (.pointer (some ⟨bw, 0, none⟩)) := cell_of_heap h.blk rfl
  have c1 : w.cell? ⟨b, 1, none⟩ = some lv := cell_of_heap h.blk rfl
  have c2 : w.cell? ⟨b, 2, none⟩ = some (.int .i64 wid) := cell_of_heap h.blk rfl
  have c3 : w.cell? ⟨b, 3, none⟩ = some (.int .i64 now) := cell_of_heap h.blk rfl
  have hkp : ∀ W, Below w.heap.size w W → _ := fun W hb => ref_kept (h.below hb).own hll h.both.n.wid64 h.both.n.tm64 h.t64
  obtain ⟨la, lc, rfl⟩ := owns_slice h.own
  have H : Hid (Cas w b wid now l bw Rn Rs (.slice la l.length lc) mn ms) := h
  have HKP : Hid _ := hkp
  clear h hkp
  generalize hln : l.length = n at *
  go_enter Try.func12, Try.ntmps12
  go_wp2_with fail
  go_region_held3 (fun w' => w'.cell? ⟨b, 1, none⟩ = some (.slice la n lc) ∧ w'.cell? ⟨b, 2, none⟩ = some (.int .i64 wid) ∧ w'.cell? ⟨b, 3, none⟩ = some (.int .i64 now)) (go_keep)
    (first | (go_at_call 9; refine (HKP.out _ (Below.refl _ _).drew).mono ?_; rintro e w1 ⟨kv, rfl, hko, hkb⟩
              have hb1 : Below w.heap.size w w1 := (below_drawn (Below.refl _ w)).trans hkb
              have g1 := (H.out.below hb1).blk
              have a1 : w1.cell? ⟨b, 1, none⟩ = some (.slice la n lc) := cell_of_heap g1 rfl
              have a2 : w1.cell? ⟨b, 2, none⟩ = some (.int .i64 wid) := cell_of_heap g1 rfl
              have a3 : w1.cell? ⟨b, 3, none⟩ = some (.int .i64 now) := cell_of_heap g1 rfl))
  have a0 : w1.cell? ⟨b, 0, none⟩ = some (.pointer (some ⟨bw, 0, none⟩)) := cell_of_heap g1 rfl
  obtain ⟨ka, kc, rfl⟩ := owns_slice hko
  have HB1 : Hid (Below w.heap.size w w1) := hb1
  have HKO : Hid (w1.ownsRow 0 56 2 (.slice ka (keptR wid now l).length kc) (keptR wid now l).length (sCells (Value.int .i64) (keptR wid now l))) := ⟨hko.1, hko.2.imp id (fun ⟨g, cap, cur, b1, _, b3⟩ => ⟨g, cap, cur, b1, Nat.zero_le _, b3⟩)⟩
  have hk16 : (keptR wid now l).length ≤ 16 := keptR_length _
  have HBO : Hid (Both w1 bw Rn Rs wid now (keptR wid now l) mn ms) := (H.out.below hb1).both
  clear hko hkb hb1 g1 a1 a2 a3 c0 c1 c2 c3 HKP
  generalize keptR wid now l = k at *
  generalize hkl : k.length = m at *
  -- how many are gone through
  by_cases hn0 : 1 ≤ n0 ∧ n0 ≤ m
  · obtain ⟨p, rfl⟩ : ∃ p : Nat, n0 = p := ⟨n0.toNat, by omega⟩
    have hfo := pall HBO.out p (by omega)
    have hpl : (k.take ((p : Int).toNat)).length = p := by rw [Int.toNat_natCast, List.length_take]; omega
    rw [hpl] at hfo
    have hp1 : ¬ (p : Int) < 1 := by omega
    have hp2 : ¬ (m : Int) < p := by omega
    have hp3 : (p : Int) ≤ m := by omega
    have hpm : p ≤ m := by omega
    have hkc : m ≤ kc ∧ kc ≤ 9223372036854775807 := by
      rcases HKO.out.2 with ⟨-, h0⟩ | ⟨g, cap, cur, he, -, -, hnc, hcm, -⟩
      · omega
      · injection he with _ _ he; subst he; unfold maxLen at hcm; exact ⟨hnc, by omega⟩
    obtain ⟨hkc1, hkc2⟩ := hkc
    have hpk : p ≤ kc := by omega
    obtain ⟨g0, rfl⟩ : ∃ g0, ka = some ⟨g0, 0, none⟩ := by
      rcases HKO.out.2 with ⟨-, h0⟩ | ⟨g, cap, cur, he, -⟩
      · omega
      · injection he with he; exact ⟨g, he⟩
    go_wp2_with fail
    refine hfo.mono ?_
    rintro e w2 ⟨nv, sv, rfl, hb2, ho2, ho3⟩
    obtain ⟨na, nc, rfl⟩ := owns_slice ho2
    obtain ⟨sa, sc, rfl⟩ := owns_slice ho3
    have HB2 : Hid (Below w.heap.size w w2) := HB1.out.trans (hb2.mono HB1.out.size)
    have R1 : Hid (w2.ownsRow 0 56 2 (.slice (some ⟨g0, 0, none⟩) m kc) k.length (sCells (Value.int .i64) k)) := by rw [hkl]; exact (Only.of_below (P := fun _ => False) hb2).owns HKO.out (fun _ _ => id)
    have R2 : Hid (w2.ownsRow 0 2 1 (.slice na p nc) p (((k.take ((p : Int).toNat)).map (·.1)).map (Value.int .i64))) := ho2
    have R3 : Hid (w2.ownsRow 0 2 1 (.slice sa p sc) p (((k.take ((p : Int).toNat)).map (·.2)).map (Value.int .i64))) := ho3
    clear hb2 ho2 ho3 hfo HKO a0 HBO
    go_wp2_with fail
    go_loopw [9] (fun v9 wr => ∃ i : Nat, v9 = .int .i64 i ∧ i ≤ p ∧ Hid (Below w2.heap.size w2 wr)) (fun v9 _ => p - (intOf v9).toNat)
    case atStart => exact ⟨0, rfl, Nat.zero_le _, Below.refl _ _⟩
    case round =>
      obtain ⟨i, rfl, hi, HB⟩ := hrel
      rcases Nat.lt_or_ge i p with hlt | hge
      · obtain ⟨x, hx⟩ : ∃ x, k[i]? = some x := ⟨k[i], List.getElem?_eq_getElem (by omega)⟩
        have o := Only.of_below (P := fun _ => False) HB.out
        have hxt : (k.take ((p : Int).toNat))[i]? = some x := by rw [List.getElem?_take, if_pos (by omega)]; exact hx
        obtain ⟨g1, p1, e1, q0, q1⟩ := row_cells (o.owns R1.out (fun _ _ => id)) hx
        obtain ⟨g2, p2, e2, q2⟩ := row1_cells (o.owns R2.out (fun _ _ => id)) (i := i) (x := x.1) (by rw [List.getElem?_map, hxt]; rfl) hlt
        obtain ⟨g3, p3, e3, q3⟩ := row1_cells (o.owns R3.out (fun _ _ => id)) (i := i) (x := x.2) (by rw [List.getElem?_map, hxt]; rfl) hlt
        injection e1 with e1
        injection e2 with e2
        injection e3 with e3
        injection e1 with e1
        injection e1 with e1
        subst e1
        subst e2 e3
        have hlt2 : (i : Int) < p := by omega
        obtain ⟨x1, x2⟩ := x
        dsimp only at q0 q1 q2 q3
        clear hx hxt o
        go_wp2_with fail
        go_quiet (fail)
        go_wp2
        go_roundw
        case rel => exact ⟨i + 1, by go_num, by omega, below_drewN HB.out _⟩
        case measure => simp [intOf]; omega
      · have hge2 : ¬ (i : Int) < p := by omega
        go_wp2
        go_ret
        exact ⟨rfl, HB2.out.trans (HB.out.mono HB2.out.size)⟩
  · have hfo := pall HBO.out ((m : Int) + 1) (by omega)
    have hpl : (k.take (((m : Int) + 1).toNat)).length = m := by rw [List.length_take]; omega
    rw [hpl] at hfo
    have hmm : ¬ (m : Int) + 1 ≤ m := by omega
    by_cases hn1 : n0 < 1
    · go_wp2_with fail
      refine hfo.mono ?_
      rintro e w2 ⟨nv, sv, rfl, hb2, ho2, ho3⟩
      obtain ⟨na, nc, rfl⟩ := owns_slice ho2
      obtain ⟨sa, sc, rfl⟩ := owns_slice ho3
      have HB2 : Hid (Below w.heap.size w w2) := HB1.out.trans (hb2.mono HB1.out.size)
      have R1 : Hid (w2.ownsRow 0 56 2 (.slice ka m kc) k.length (sCells (Value.int .i64) k)) := by rw [hkl]; exact (Only.of_below (P := fun _ => False) hb2).owns HKO.out (fun _ _ => id)
      have R2 : Hid (w2.ownsRow 0 2 1 (.slice na m nc) m (((k.take (((m : Int) + 1).toNat)).map (·.1)).map (Value.int .i64))) := ho2
      have R3 : Hid (w2.ownsRow 0 2 1 (.slice sa m sc) m (((k.take (((m : Int) + 1).toNat)).map (·.2)).map (Value.int .i64))) := ho3
      clear hb2 ho2 ho3 hfo HKO a0 HBO hpl hn0
      go_wp2_with fail
      clear hmm
      go_loopw [9] (fun v9 wr => ∃ i : Nat, v9 = .int .i64 i ∧ i ≤ m ∧ Hid (Below w2.heap.size w2 wr)) (fun v9 _ => m - (intOf v9).toNat)
      case atStart => exact ⟨0, rfl, Nat.zero_le _, Below.refl _ _⟩
      case round =>
        obtain ⟨i, rfl, hi, HB⟩ := hrel
        rcases Nat.lt_or_ge i m with hlt | hge
        · obtain ⟨x, hx⟩ : ∃ x, k[i]? = some x := ⟨k[i], List.getElem?_eq_getElem (by omega)⟩
          have o := Only.of_below (P := fun _ => False) HB.out
          have hxt : (k.take (((m : Int) + 1).toNat))[i]? = some x := by rw [List.getElem?_take, if_pos (by omega)]; exact hx
          obtain ⟨g1, p1, e1, q0, q1⟩ := row_cells (o.owns R1.out (fun _ _ => id)) hx
          obtain ⟨g2, p2, e2, q2⟩ := row1_cells (o.owns R2.out (fun _ _ => id)) (i := i) (x := x.1) (by rw [List.getElem?_map, hxt]; rfl) hlt
          obtain ⟨g3, p3, e3, q3⟩ := row1_cells (o.owns R3.out (fun _ _ => id)) (i := i) (x := x.2) (by rw [List.getElem?_map, hxt]; rfl) hlt
          injection e1 with e1 e1b e1c
          injection e2 with e2 e2b e2c
          injection e3 with e3 e3b e3c
          subst e1
          subst e2 e3
          clear e1b e1c e2b e2c e3b e3c
          have hlt2 : (i : Int) < m := by omega
          obtain ⟨x1, x2⟩ := x
          dsimp only at q0 q1 q2 q3
          clear hx hxt o
          go_wp2_with fail
          go_quiet (fail)
          go_wp2
          go_roundw
          case rel => exact ⟨i + 1, by go_num, by omega, below_drewN HB.out _⟩
          case measure => simp [intOf]; omega
        · have hge2 : ¬ (i : Int) < m := by omega
          go_wp2
          go_ret
          exact ⟨rfl, HB2.out.trans (HB.out.mono HB2.out.size)⟩
    · have hn2 : (m : Int) < n0 := by omega
      go_wp2_with fail
      refine hfo.mono ?_
      rintro e w2 ⟨nv, sv, rfl, hb2, ho2, ho3⟩
      obtain ⟨na, nc, rfl⟩ := owns_slice ho2
      obtain ⟨sa, sc, rfl⟩ := owns_slice ho3
      have HB2 : Hid (Below w.heap.size w w2) := HB1.out.trans (hb2.mono HB1.out.size)
      have R1 : Hid (w2.ownsRow 0 56 2 (.slice ka m kc) k.length (sCells (Value.int .i64) k)) := by rw [hkl]; exact (Only.of_below (P := fun _ => False) hb2).owns HKO.out (fun _ _ => id)
      have R2 : Hid (w2.ownsRow 0 2 1 (.slice na m nc) m (((k.take (((m : Int) + 1).toNat)).map (·.1)).map (Value.int .i64))) := ho2
      have R3 : Hid (w2.ownsRow 0 2 1 (.slice sa m sc) m (((k.take (((m : Int) + 1).toNat)).map (·.2)).map (Value.int .i64))) := ho3
      clear hb2 ho2 ho3 hfo HKO a0 HBO hpl hn0
      go_wp2_with fail
      clear hmm
      go_loopw [9] (fun v9 wr => ∃ i : Nat, v9 = .int .i64 i ∧ i ≤ m ∧ Hid (Below w2.heap.size w2 wr)) (fun v9 _ => m - (intOf v9).toNat)
      case atStart => exact ⟨0, rfl, Nat.zero_le _, Below.refl _ _⟩
      case round =>
        obtain ⟨i, rfl, hi, HB⟩ := hrel
        rcases Nat.lt_or_ge i m with hlt | hge
        · obtain ⟨x, hx⟩ : ∃ x, k[i]? = some x := ⟨k[i], List.getElem?_eq_getElem (by omega)⟩
          have o := Only.of_below (P := fun _ => False) HB.out
          have hxt : (k.take (((m : Int) + 1).toNat))[i]? = some x := by rw [List.getElem?_take, if_pos (by omega)]; exact hx
          obtain ⟨g1, p1, e1, q0, q1⟩ := row_cells (o.owns R1.out (fun _ _ => id)) hx
          obtain ⟨g2, p2, e2, q2⟩ := row1_cells (o.owns R2.out (fun _ _ => id)) (i := i) (x := x.1) (by rw [List.getElem?_map, hxt]; rfl) hlt
          obtain ⟨g3, p3, e3, q3⟩ := row1_cells (o.owns R3.out (fun _ _ => id)) (i := i) (x := x.2) (by rw [List.getElem?_map, hxt]; rfl) hlt
          injection e1 with e1 e1b e1c
          injection e2 with e2 e2b e2c
          injection e3 with e3 e3b e3c
          subst e1
          subst e2 e3
          clear e1b e1c e2b e2c e3b e3c
          have hlt2 : (i : Int) < m := by omega
          obtain ⟨x1, x2⟩ := x
          dsimp only at q0 q1 q2 q3
          clear hx hxt o
          go_wp2_with fail
          go_quiet (fail)
          go_wp2
          go_roundw
          case rel => exact ⟨i + 1, by go_num, by omega, below_drewN HB.out _⟩
          case measure => simp [intOf]; omega
        · have hge2 : ¬ (i : Int) < m := by omega
          go_wp2
          go_ret
          exact ⟨rfl, HB2.out.trans (HB.out.mono HB2.out.size)⟩
end Go.Proofs.Ytjcbbcnjnnpfoaa
