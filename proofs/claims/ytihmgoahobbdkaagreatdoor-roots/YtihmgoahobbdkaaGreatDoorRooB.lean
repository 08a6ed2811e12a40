/-
  scaler.each's own function, gone through by plain.taken's, WALKED; taken.
-/
import Derived.Test.YtihmgoahobbdkaaGreatDoorRooA
namespace Go.Proofs.YtihmgoahobbdkaaGreatDoor
open Go.RowKit Go.Lib

/-- The first n of a list; below 1: all. -/
def firstN (n : Int) (ms : List ByteArray) : List ByteArray := if 1 ≤ n then ms.take n.toNat else ms
theorem row_at {w : World} {base e n cp : Nat} {ao : Option Addr} {xs : List Value} {j : Nat} {v : Value} (h : w.ownsRow base e 1 (.slice ao n cp) n xs) (hj : xs[j]? = some v) : ∃ g, ao = some ⟨g, 0, none⟩ ∧ w.cell? ⟨g, j, none⟩ = some v := by
  have hl := h.1
  rcases h.2 with ⟨he, h0⟩ | ⟨g, cap, cur, he, -, hg, -, -, -, ht⟩
  · subst h0
    have : xs = [] := List.length_eq_zero_iff.1 (by omega)
    subst this
    simp at hj
  · injection he with he _ _
    refine ⟨g, he, cell_of_heap hg ?_⟩
    rw [← ht, List.getElem?_take] at hj
    split at hj
    · simpa using hj
    · cases hj
abbrev Box3 (ob sb tb : Nat) : Nat → Prop := fun b => b = ob ∨ b = sb ∨ b = tb
theorem Tk.only {w w' : World} {ob sb tb nb : Nat} {n : Int} {st : Bool} {l : List ByteArray} {tv : Value} {P : Nat → Prop} (h : Tk w ob sb tb nb n st l tv) (ho : Only P w w') (h1 : ¬ P ob) (h2 : ¬ P sb) (h3 : ¬ P tb) (h5 : ¬ P nb) (h6 : ∀ g, tv.ownBlock = some g → ¬ P g) : Tk w' ob sb tb nb n st l tv :=
  ⟨ho.heap h.ho h1, ho.heap h.hs h2, ho.heap h.ht h3, ho.heap h.hn h5, h.os, ho.owns h.own h6⟩
/-- Where the iterator stands: j names have been handed over. -/
structure Gone (w wr : World) (ob sb tb nb : Nat) (n : Int) (ms : List ByteArray) (j : Nat) (tv : Value) : Prop where
  col : Tk wr ob sb tb nb n false (ms.take j) tv
  only : Only (Box3 ob sb tb) w wr
  tnew : ∀ g, tv.ownBlock = some g → w.heap.size ≤ g
theorem new_of {w wr : World} (hs : w.heap.size ≤ wr.heap.size) {tv tv' : Value} (h : ∀ g, tv.ownBlock = some g → w.heap.size ≤ g) (hh : tv'.ownBlock = tv.ownBlock ∨ ∃ g, tv'.ownBlock = some g ∧ wr.heap.size ≤ g) : ∀ g, tv'.ownBlock = some g → w.heap.size ≤ g := by
  intro g hg
  rcases hh with q | ⟨g', q, hq⟩
  · exact h g (q ▸ hg)
  · rw [hg] at q; injection q with q; omega

set_option maxRecDepth 1000000 in
set_option maxHeartbeats 1000000 in
theorem eachRun {w : World} {base : Nat} {lv : Value} {ms : List ByteArray} (hl : w.ownsRow base 9 1 lv ms.length (ms.map Value.string)) (h16 : ms.length ≤ 900) {Bx ob sb tb nb : Nat} (hBx : w.heap[Bx]? = some (.cells #[lv] 30 (0, 0))) {n : Int} (hc : Tk w ob sb tb nb n false [] (.slice none 0 0)) :
    Calls Tryz.prog 75 #[.func (.func 50) #[] #[.pointer (some ⟨ob, 0, none⟩), .pointer (some ⟨sb, 0, none⟩), .pointer (some ⟨tb, 0, none⟩), .pointer (some ⟨nb, 0, none⟩)], .pointer (some ⟨Bx, 0, none⟩)] w fun e w' =>
      e = .returned (.tuple #[]) ∧ ∃ st tv, Tk w' ob sb tb nb n st (firstN n ms) tv ∧ Only (Box3 ob sb tb) w w' := by
  have cB := cell_of_heap (i := 0) hBx rfl
  obtain ⟨ao, cp, rfl⟩ := owns_slice_len hl
  have HL : Hid (∀ w', Only (Box3 ob sb tb) w w' → w'.ownsRow base 9 1 (.slice ao ms.length cp) ms.length (ms.map Value.string)) := fun w' ho => ho.owns hl (fun g hg q => by
    rcases q with q | q | q
    · subst q; exact row_ne hc.ho hl (by decide) hg
    · subst q; exact row_ne hc.hs hl (by decide) hg
    · subst q; exact row_ne hc.ht hl (by decide) hg)
  have G0 : Hid (Gone w w ob sb tb nb n ms 0 (.slice none 0 0)) := ⟨by rw [List.take_zero]; exact hc, Only.refl _ _, (fun g hg => by cases hg)⟩
  clear hl hBx hc
  generalize hm : ms.length = m at *
  go_enter Tryz.func75, Tryz.ntmps75
  go_wp2_with fail
  go_loopw [7] (fun v7 wr => ∃ (j : Nat) (tv : Value), v7 = .int .i64 j ∧ j ≤ m ∧ (1 ≤ n → (j : Int) < n) ∧ Hid (Gone w wr ob sb tb nb n ms j tv)) (fun v7 _ => m - (intOf v7).toNat)
  case atStart => exact ⟨0, _, rfl, Nat.zero_le _, by omega, G0⟩
  case round =>
    obtain ⟨j, tv, rfl, hj, hjn, HG⟩ := hrel
    clear G0
    rcases Nat.lt_or_ge j m with hlt | hge
    · obtain ⟨x, hx⟩ : ∃ x, ms[j]? = some x := ⟨ms[j], List.getElem?_eq_getElem (by omega)⟩
      obtain ⟨g, he, q1⟩ := row_at (HL.out wr HG.out.only) (j := j) (v := .string x) (by rw [List.getElem?_map, hx]; rfl)
      subst he
      have HTK : Hid (ms.take (j + 1) = ms.take j ++ [x]) := by rw [List.take_add_one, hx]; rfl
      have hlj : (ms.take j).length = j := by rw [List.length_take]; omega
      have hco := take1 HG.out.col (by omega) x
      rw [hlj] at hco
      have hlt2 : (j : Int) < m := by omega
      clear hx hlj
      go_wp2_with fail
      refine hco.mono ?_
      rintro e w2 ⟨rfl, tv', hcol, hon, ht⟩
      clear hco q1
      have only2 : Only (Box3 ob sb tb) w w2 := HG.out.only.trans hon (fun b hb q => by
        rcases q with q | q | q | q
        · exact .inl q
        · exact .inr (.inl q)
        · exact .inr (.inr q)
        · have := HG.out.tnew b q; omega)
      cases hst : decide ((j : Int) + 1 = n) with
      | true =>
        have hjn1 : (j : Int) + 1 = n := of_decide_eq_true hst
        rw [hst] at hcol
        have HR : Hid (Tk w2 ob sb tb nb n true (firstN n ms) tv' ∧ Only (Box3 ob sb tb) w w2) := ⟨by unfold firstN; rw [if_pos (by omega), show n.toNat = j + 1 by omega, HTK.out]; exact hcol, only2⟩
        clear hcol hon ht only2 hst
        go_wp2
        refine bodyPost_ret (results_none rfl _ _ _) rfl ?_
        exact ⟨rfl, _, _, HR.out.1, HR.out.2⟩
      | false =>
        have hjn1 : ¬ (j : Int) + 1 = n := of_decide_eq_false hst
        rw [hst] at hcol
        have HR : Hid (Gone w w2 ob sb tb nb n ms (j + 1) tv') := ⟨by rw [HTK.out]; exact hcol, only2, new_of HG.out.only.size HG.out.tnew ht⟩
        clear hcol hon ht only2 hst
        go_wp2
        go_roundw
        case rel => exact ⟨j + 1, tv', by go_num, by omega, by omega, HR⟩
        case measure => simp [intOf]; omega
    · have HR : Hid (Tk wr ob sb tb nb n false (firstN n ms) tv ∧ Only (Box3 ob sb tb) w wr) := ⟨by
        have h1 := HG.out.col
        have h2 : ms.take j = firstN n ms := by
          unfold firstN
          split
          · rw [List.take_of_length_le (by omega), List.take_of_length_le (by omega)]
          · rw [List.take_of_length_le (by omega)]
        rw [h2] at h1
        exact h1, HG.out.only⟩
      have hge2 : ¬ (j : Int) < m := by omega
      go_wp2
      go_end0
      refine ⟨rfl, ?_⟩
      first | exact ⟨_, _, HR.out.1, HR.out.2⟩ | exact ⟨.inl ⟨_, HR.out.1⟩, HR.out.2⟩
end Go.Proofs.YtihmgoahobbdkaaGreatDoor
