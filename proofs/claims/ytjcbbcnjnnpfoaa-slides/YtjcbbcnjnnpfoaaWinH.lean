/-
  The iterator of a window of numbers, gone through by plain's All, WALKED.
-/
import Derived.Test.YtjcbbcnjnnpfoaaWinG
namespace Go.Proofs.Ytjcbbcnjnnpfoaa
open Go.RowKit Go.Lib Go.Shelf

abbrev Box4 (rb sb tb vb : Nat) : Nat → Prop := fun b => b = rb ∨ b = sb ∨ b = tb ∨ b = vb
theorem Col.only {w w' : World} {rb sb tb vb nb : Nat} {n : Int} {st : Bool} {l : List (Int × Int)} {tv vv : Value} {P : Nat → Prop} (h : Col w rb sb tb vb nb n st l tv vv) (ho : Only P w w')
    (h1 : ¬ P rb) (h2 : ¬ P sb) (h3 : ¬ P tb) (h4 : ¬ P vb) (h5 : ¬ P nb) (h6 : ∀ g, tv.ownBlock = some g → ¬ P g) (h7 : ∀ g, vv.ownBlock = some g → ¬ P g) : Col w' rb sb tb vb nb n st l tv vv :=
  ⟨ho.heap h.hr h1, ho.heap h.hs h2, ho.heap h.ht h3, ho.heap h.hv h4, ho.heap h.hn h5, h.rs, h.tvb, ho.owns h.ot h6, ho.owns h.ov h7, h.ne⟩
theorem Col.below {w w' : World} {rb sb tb vb nb : Nat} {n : Int} {st : Bool} {l : List (Int × Int)} {tv vv : Value} (h : Col w rb sb tb vb nb n st l tv vv) (hb : Below w.heap.size w w') : Col w' rb sb tb vb nb n st l tv vv :=
  h.only (P := fun _ => False) (.of_below hb) id id id id id (fun _ _ => id) (fun _ _ => id)
/-- What collecting turns is no row of samples. -/
theorem Col.apart {w : World} {rb sb tb vb nb : Nat} {n : Int} {st : Bool} {l : List (Int × Int)} {tv vv : Value} (h : Col w rb sb tb vb nb n st l tv vv) {base sT size m : Nat} {x : Value} {xs : List Value} (ho : w.ownsRow base sT size x m xs) (h1 : sT ≠ 4) (h2 : sT ≠ 61) (h3 : sT ≠ 2) : ∀ g, x.ownBlock = some g → ¬ ColP rb sb tb vb tv vv g := by
  intro g hg q
  rcases q with q | q | q | q | q | q
  · subst q; exact row_ne h.hr ho h1 hg
  · subst q; exact row_ne h.hs ho h1 hg
  · subst q; exact row_ne h.ht ho h2 hg
  · subst q; exact row_ne h.hv ho h2 hg
  · exact rows_ne ho h.ot h3 g hg q
  · exact rows_ne ho h.ov h3 g hg q

/-- Where the iterator stands: j samples have been handed over. -/
structure Gone (w wr : World) (rb sb tb vb nb : Nat) (n : Int) (k : List (Int × Int)) (cv : Value) (j : Nat) (tv vv : Value) : Prop where
  col : Col wr rb sb tb vb nb n false (k.take j) tv vv
  row : wr.ownsRow 0 84 2 cv k.length (sCells (Value.int .i64) k)
  only : Only (Box4 rb sb tb vb) w wr
  tnew : ∀ g, tv.ownBlock = some g → w.heap.size ≤ g
  vnew : ∀ g, vv.ownBlock = some g → w.heap.size ≤ g
theorem new_of {w wr : World} (hs : w.heap.size ≤ wr.heap.size) {tv tv' : Value} (h : ∀ g, tv.ownBlock = some g → w.heap.size ≤ g) (hh : tv'.ownBlock = tv.ownBlock ∨ ∃ g, tv'.ownBlock = some g ∧ wr.heap.size ≤ g) : ∀ g, tv'.ownBlock = some g → w.heap.size ≤ g := by
  intro g hg
  rcases hh with q | ⟨g', q, hq⟩
  · exact h g (q ▸ hg)
  · rw [hg] at q; injection q with q; omega

set_option maxRecDepth 1000000 in
set_option maxHeartbeats 1000000 in
theorem allRun {w : World} {R : Nat} {wid tm : Int} {k : List (Int × Int)} {mv : Value} (h : WinI w R wid tm k mv) {Bx rb sb tb vb nb : Nat} (hBx : w.heap[Bx]? = some (.cells #[.pointer (some ⟨R, 0, none⟩)] 33 (0, 0))) {n : Int} (hn : 1 ≤ n) (hc : Col w rb sb tb vb nb n false [] (.slice none 0 0) (.slice none 0 0)) (h16 : k.length ≤ 16) :
    Calls Try.prog 49 #[.func (.func 32) #[] #[.pointer (some ⟨rb, 0, none⟩), .pointer (some ⟨sb, 0, none⟩), .pointer (some ⟨tb, 0, none⟩), .pointer (some ⟨vb, 0, none⟩), .pointer (some ⟨nb, 0, none⟩)], .pointer (some ⟨Bx, 0, none⟩)] w fun e w' =>
      e = .returned (.tuple #[]) ∧ ∃ st tv vv, Col w' rb sb tb vb nb n st (k.take n.toNat) tv vv ∧ Only (Box4 rb sb tb vb) w w' := by
  have cB := cell_of_heap (i := 0) hBx rfl
  have c2 : w.cell? ⟨R, 2, none⟩ = some mv := cell_of_heap (i := 2) h.blk rfl
  obtain ⟨ao, cp, rfl⟩ := owns_slice h.own
  have hcl := cloneI h.own h.len
  have HC : Hid (Col w rb sb tb vb nb n false [] (.slice none 0 0) (.slice none 0 0)) := hc
  clear h hBx hc
  generalize hm : k.length = m at *
  go_enter Try.func49, Try.ntmps49
  go_wp2_with fail
  refine hcl.mono ?_
  rintro e w1 ⟨cv, rfl, hown, hb1⟩
  obtain ⟨co, cc, rfl⟩ := owns_slice hown
  have G0 : Hid (Gone w w1 rb sb tb vb nb n k (.slice co m cc) 0 (.slice none 0 0) (.slice none 0 0)) := ⟨by rw [List.take_zero]; exact HC.out.below hb1, by rw [hm]; exact ⟨hown.1, hown.2.imp id (fun ⟨g, cap, cur, a1, _, a3⟩ => ⟨g, cap, cur, a1, Nat.zero_le _, a3⟩)⟩, .of_below hb1, (fun g hg => by cases hg), (fun g hg => by cases hg)⟩
  clear hown hb1 hcl cB c2 HC
  go_wp2_with fail
  go_loopw [11] (fun v11 wr => ∃ (j : Nat) (tv vv : Value), v11 = .int .i64 j ∧ j ≤ m ∧ (j : Int) < n ∧ Hid (Gone w wr rb sb tb vb nb n k (.slice co m cc) j tv vv)) (fun v11 _ => m - (intOf v11).toNat)
  case atStart => exact ⟨0, _, _, rfl, Nat.zero_le _, by omega, G0⟩
  case round =>
    obtain ⟨j, tv, vv, rfl, hj, hjn, HG⟩ := hrel
    clear G0
    rcases Nat.lt_or_ge j m with hlt | hge
    · obtain ⟨x, hx⟩ : ∃ x, k[j]? = some x := ⟨k[j], List.getElem?_eq_getElem (by omega)⟩
      obtain ⟨g, cp', he, q1, q2⟩ := row_cells HG.out.row hx
      injection he with he1 he2 he3
      subst he1
      clear he2 he3
      have htk : k.take (j + 1) = k.take j ++ [x] := by rw [List.take_add_one, hx]; rfl
      have HTK : Hid (k.take (j + 1) = k.take j ++ [x]) := htk
      obtain ⟨x1, x2⟩ := x
      dsimp only at q1 q2
      have hlj : (k.take j).length = j := by rw [List.length_take]; omega
      have hco := collect (HG.out.col.below ((Below.refl _ wr).alloc (Nat.le_refl _) (.cells #[.int .i64 x1, .int .i64 x2] 84))) (by omega) x1 x2
      rw [hlj] at hco
      have hlt2 : (j : Int) < m := by omega
      clear htk hx hlj
      go_wp2_with fail
      refine hco.mono ?_
      rintro e w2 ⟨rfl, tv', vv', hcol, hon, ht, hv⟩
      clear hco q1 q2
      have hsz : w.heap.size ≤ (wr.alloc (.cells #[.int .i64 x1, .int .i64 x2] 84)).heap.size := by have := HG.out.only.size; simp; omega
      have only2 : Only (Box4 rb sb tb vb) w w2 := (HG.out.only.alloc _).trans hon (fun b hb q => by
        rcases q with q | q | q | q | q | q
        · exact .inl q
        · exact .inr (.inl q)
        · exact .inr (.inr (.inl q))
        · exact .inr (.inr (.inr q))
        · have := HG.out.tnew b q; omega
        · have := HG.out.vnew b q; omega)
      cases hst : decide ((j : Int) + 1 = n) with
      | true =>
        have hjn1 : (j : Int) + 1 = n := of_decide_eq_true hst
        rw [hst] at hcol
        have HR : Hid (Col w2 rb sb tb vb nb n true (k.take n.toNat) tv' vv' ∧ Only (Box4 rb sb tb vb) w w2) := ⟨by rw [show n.toNat = j + 1 by omega, HTK.out]; exact hcol, only2⟩
        clear hcol hon ht hv only2 hst
        go_wp2
        refine bodyPost_ret (results_none rfl _ _ _) rfl ?_
        refine ⟨rfl, ?_⟩
        first | exact ⟨_, _, _, HR.out.1, HR.out.2⟩ | exact ⟨.inl ⟨_, _, HR.out.1⟩, HR.out.2⟩
      | false =>
        have hjn1 : ¬ (j : Int) + 1 = n := of_decide_eq_false hst
        rw [hst] at hcol
        have HR : Hid (Gone w w2 rb sb tb vb nb n k (.slice (some ⟨g, 0, none⟩) m cc) (j + 1) tv' vv') := ⟨by rw [HTK.out]; exact hcol, ((Only.refl _ wr).alloc _ |>.trans hon (fun _ _ q => q)).owns HG.out.row (HG.out.col.apart HG.out.row (by decide) (by decide) (by decide)), only2, new_of hsz HG.out.tnew ht, new_of hsz HG.out.vnew hv⟩
        clear hcol hon ht hv only2 hst
        go_wp2
        go_roundw
        case rel => exact ⟨j + 1, tv', vv', by go_num, by omega, by omega, HR⟩
        case measure => simp [intOf]; omega
    · have HR : Hid (Col wr rb sb tb vb nb n false (k.take n.toNat) tv vv ∧ Only (Box4 rb sb tb vb) w wr) := ⟨by have := HG.out.col; rw [List.take_of_length_le (by omega)] at this ⊢; exact this, HG.out.only⟩
      have hge2 : ¬ (j : Int) < m := by omega
      go_wp2
      go_end0
      refine ⟨rfl, ?_⟩
      first | exact ⟨_, _, _, HR.out.1, HR.out.2⟩ | exact ⟨.inl ⟨_, _, HR.out.1⟩, HR.out.2⟩
end Go.Proofs.Ytjcbbcnjnnpfoaa
