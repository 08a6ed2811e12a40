/-
  THE LAW's fold, WALKED.
-/
import Derived.Test.YtjcbbcnjnnpfoaaWinM
namespace Go.Proofs.Ytjcbbcnjnnpfoaa
open Go.RowKit Go.Lib Go.Shelf

theorem row1_cells {α : Type} {enc : α → Value} {w : World} {base T : Nat} {v : Value} {xs : List α} {n : Nat} (h : w.ownsRow base T 1 v n (xs.map enc)) {i : Nat} {x : α} (hx : xs[i]? = some x) (hi : i < n) :
    ∃ g cp, v = .slice (some ⟨g, 0, none⟩) n cp ∧ w.cell? ⟨g, i, none⟩ = some (enc x) := by
  rcases h.2 with ⟨-, h0⟩ | ⟨g, cap, cur, rfl, -, hg, hnc, hcm, hcs, htake⟩
  · omega
  refine ⟨g, cap, rfl, ?_⟩
  have q : (xs.map enc)[i]? = some (enc x) := by rw [List.getElem?_map, hx]; rfl
  rw [← htake, List.getElem?_take, if_pos (by omega)] at q
  simpa [World.cell?, hg] using q

set_option maxRecDepth 1000000 in
set_option maxHeartbeats 4000000 in
theorem law_fold {w : World} {b bw Rn Rs : Nat} {wid now : Int} {l : List (Int × Int)} {lv mn ms : Value} (h : Cas w b wid now l bw Rn Rs lv mn ms) (hll : l.length ≤ 1073741824) :
    Calls Try.prog 13 #[.pointer (some ⟨b, 0, none⟩)] w fun e w' => e = .returned (.bool true) ∧ Below w.heap.size w w' := by
  have c0 : w.cell? ⟨b, 0, none⟩ = some (.pointer (some ⟨bw, 0, none⟩)) := cell_of_heap h.blk rfl
  have c1 : w.cell? ⟨b, 1, none⟩ = some lv := cell_of_heap h.blk rfl
  have c2 : w.cell? ⟨b, 2, none⟩ = some (.int .i64 wid) := cell_of_heap h.blk rfl
  have c3 : w.cell? ⟨b, 3, none⟩ = some (.int .i64 now) := cell_of_heap h.blk rfl
  have hkp : ∀ W, Below w.heap.size w W → _ := fun W hb => ref_kept (h.below hb).own hll h.both.n.wid64 h.both.n.tm64 h.t64
  obtain ⟨la, lc, rfl⟩ := owns_slice h.own
  have H : Hid (Cas w b wid now l bw Rn Rs (.slice la l.length lc) mn ms) := h
  have HKP : Hid _ := hkp
  clear h hkp
  generalize hln : l.length = n at *
  go_enter Try.func13, Try.ntmps13
  go_wp2_with fail
  go_region_held3 (fun w' => w'.cell? ⟨b, 1, none⟩ = some (.slice la n lc) ∧ w'.cell? ⟨b, 2, none⟩ = some (.int .i64 wid) ∧ w'.cell? ⟨b, 3, none⟩ = some (.int .i64 now)) (go_keep)
    (first | (go_at_call 9; refine (HKP.out _ (Below.refl _ _).drew).mono ?_; rintro e w1 ⟨kv, rfl, hko, hkb⟩
              have hb1 : Below w.heap.size w w1 := (below_drawn (Below.refl _ w)).trans hkb
              have g1 := (H.out.below hb1).blk
              have a1 : w1.cell? ⟨b, 1, none⟩ = some (.slice la n lc) := cell_of_heap g1 rfl
              have a2 : w1.cell? ⟨b, 2, none⟩ = some (.int .i64 wid) := cell_of_heap g1 rfl
              have a3 : w1.cell? ⟨b, 3, none⟩ = some (.int .i64 now) := cell_of_heap g1 rfl))
  have a0 : w1.cell? ⟨b, 0, none⟩ = some (.pointer (some ⟨bw, 0, none⟩)) := cell_of_heap g1 rfl
  obtain ⟨ka, kc, rfl⟩ := owns_slice hko
  have hfo := pfold (H.out.below hb1).both
  have HB1 : Hid (Below w.heap.size w w1) := hb1
  have HKO : Hid (w1.ownsRow 0 56 2 (.slice ka (keptR wid now l).length kc) (keptR wid now l).length (sCells (Value.int .i64) (keptR wid now l))) := ⟨hko.1, hko.2.imp id (fun ⟨g, cap, cur, b1, _, b3⟩ => ⟨g, cap, cur, b1, Nat.zero_le _, b3⟩)⟩
  have hk16 : (keptR wid now l).length ≤ 16 := keptR_length _
  clear hko hkb hb1 g1 a1 a2 a3 c0 c1 c2 c3 HKP
  generalize keptR wid now l = k at *
  generalize hkl : k.length = m at *
  go_wp2_with fail
  refine hfo.mono ?_
  rintro e w2 ⟨nv, sv, rfl, hb2, ho2, ho3⟩
  obtain ⟨na, nc, rfl⟩ := owns_slice ho2
  obtain ⟨sa, sc, rfl⟩ := owns_slice ho3
  have HB2 : Hid (Below w.heap.size w w2) := HB1.out.trans (hb2.mono HB1.out.size)
  have R1 : Hid (w2.ownsRow 0 56 2 (.slice ka m kc) k.length (sCells (Value.int .i64) k)) := by rw [hkl]; exact (Only.of_below (P := fun _ => False) hb2).owns HKO.out (fun _ _ => id)
  have R2 : Hid (w2.ownsRow 0 2 1 (.slice na m nc) m ((k.map (·.2)).map (Value.int .i64))) := ho2
  have R3 : Hid (w2.ownsRow 0 9 1 (.slice sa m sc) m ((k.map (fun x => keyOf x.2)).map Value.string)) := ho3
  clear hb2 ho2 ho3 hfo HKO a0
  go_wp2_with fail
  go_loopw [7] (fun v7 wr => ∃ i : Nat, v7 = .int .i64 i ∧ i ≤ m ∧ Hid (Below w2.heap.size w2 wr)) (fun v7 _ => m - (intOf v7).toNat)
  case atStart => exact ⟨0, rfl, Nat.zero_le _, Below.refl _ _⟩
  case round =>
    obtain ⟨i, rfl, hi, HB⟩ := hrel
    rcases Nat.lt_or_ge i m with hlt | hge
    · obtain ⟨x, hx⟩ : ∃ x, k[i]? = some x := ⟨k[i], List.getElem?_eq_getElem (by omega)⟩
      have hk := ref_key x.2 wr
      have hcells : ∀ W, Below w2.heap.size w2 W → ∃ g1 g2 g3, ka = some ⟨g1, 0, none⟩ ∧ na = some ⟨g2, 0, none⟩ ∧ sa = some ⟨g3, 0, none⟩ ∧ W.cell? ⟨g1, i * 2 + 1, none⟩ = some (.int .i64 x.2) ∧ W.cell? ⟨g2, i, none⟩ = some (.int .i64 x.2) ∧ W.cell? ⟨g3, i, none⟩ = some (.string (keyOf x.2)) := by
        intro W hb
        have o := Only.of_below (P := fun _ => False) hb
        obtain ⟨g1, p1, e1, -, q1⟩ := row_cells (o.owns R1.out (fun _ _ => id)) hx
        obtain ⟨g2, p2, e2, q2⟩ := row1_cells (o.owns R2.out (fun _ _ => id)) (i := i) (x := x.2) (by rw [List.getElem?_map, hx]; rfl) hlt
        obtain ⟨g3, p3, e3, q3⟩ := row1_cells (o.owns R3.out (fun _ _ => id)) (i := i) (x := keyOf x.2) (by rw [List.getElem?_map, hx]; rfl) hlt
        injection e1 with e1
        injection e2 with e2
        injection e3 with e3
        exact ⟨g1, g2, g3, e1, e2, e3, q1, q2, q3⟩
      obtain ⟨g1, g2, g3, rfl, rfl, rfl, q1, -, -⟩ := hcells wr HB.out
      have HC : Hid _ := hcells
      have hlt2 : (i : Int) < m := by omega
      obtain ⟨x1, x2⟩ := x
      dsimp only at q1 hk
      clear hx hcells
      go_wp2_with fail
      refine hk.mono ?_
      rintro e w3 ⟨rfl, hb3⟩
      have hb23 : Below w2.heap.size w2 w3 := HB.out.trans (hb3.mono HB.out.size)
      obtain ⟨g1', g2', g3', e1, e2, e3, p1, p2, p3⟩ := HC.out w3 hb23
      injection e1 with e1
      injection e1 with e1
      injection e2 with e2
      injection e2 with e2
      injection e3 with e3
      injection e3 with e3
      subst e1 e2 e3
      have HB3 : Hid (Below w2.heap.size w2 w3) := hb23
      clear hk q1 hb3 hb23 HC
      go_wp2_with fail
      go_quiet (fail)
      go_wp2
      go_roundw
      case rel => exact ⟨i + 1, by go_num, by omega, below_drewN HB3.out _⟩
      case measure => simp [intOf]; omega
    · have hge2 : ¬ (i : Int) < m := by omega
      go_wp2
      go_ret
      exact ⟨rfl, HB2.out.trans (HB.out.mono HB2.out.size)⟩
end Go.Proofs.Ytjcbbcnjnnpfoaa
