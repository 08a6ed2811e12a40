/-
  plain.taken's own function, and scaler.each's with it, WALKED.
-/
import Derived.Test.YtihmgoahobbdkaaGreatDoorJE21
import Derived.Test.YtihmgoahobbdkaaGreatDoorProg
import Derived.BigQuiet
import Derived.BigRegion
import Derived.Deep.QuietTactic
namespace Go.Proofs.YtihmgoahobbdkaaGreatDoor
open Go.RowKit Go.Lib

theorem infoS : (Tryz.prog.info? 9).map (fun i => (i.zero, i.size, i.bytes)) = some (some (.string { data := #[] }), 1, 16) := by kernel_rfl
theorem cell_one_at (w : World) (a : Value) (t : TypeId) : ∀ (j : Nat) (u : Value), [a][j]? = some u → (w.alloc (.cells #[a] t)).cell? ((⟨w.heap.size, 0, none⟩ : Addr).add j) = some u := by
  intro j u hu
  cases j with
  | zero => injection hu with hu; subst hu; exact cell_of_heap (block_new w #[a] t) rfl
  | succ j => simp at hu
/-- What the caller's function has taken, in its variables. -/
structure Tk (w : World) (ob sb tb nb : Nat) (n : Int) (st : Bool) (l : List ByteArray) (tv : Value) : Prop where
  ho : w.heap[ob]? = some (.cells #[.bool false] 4 (0, 0))
  hs : w.heap[sb]? = some (.cells #[.bool st] 4 (0, 0))
  ht : w.heap[tb]? = some (.cells #[tv] 30 (0, 0))
  hn : w.heap[nb]? = some (.cells #[.int .i64 n] 3 (0, 0))
  os : ob ≠ sb
  own : w.ownsRow 0 9 1 tv l.length (l.map Value.string)
/-- The blocks that taking may turn. -/
abbrev TkP (ob sb tb : Nat) (tv : Value) : Nat → Prop := fun b => b = ob ∨ b = sb ∨ b = tb ∨ tv.ownBlock = some b

/-- One more is in the list. -/
theorem Tk.pushed {w w5 : World} {ob sb tb nb : Nat} {n : Int} {l : List ByteArray} {tv v' : Value} {x : ByteArray} {o : Obj} (h : Tk w ob sb tb nb n false l tv) (hown : w5.ownsRow 0 9 1 v' (l.length + 1) (l.map Value.string ++ [.string x])) (hg : (w.alloc o).grownBy w5 tv.ownBlock)
    (hw : v'.ownBlock = tv.ownBlock ∨ v'.ownBlock = some (w.alloc o).heap.size) :
    Tk (w5.setCell ⟨tb, 0, none⟩ v') ob sb tb nb n false (l ++ [x]) v' ∧ Only (TkP ob sb tb tv) w (w5.setCell ⟨tb, 0, none⟩ v') ∧ (v'.ownBlock = tv.ownBlock ∨ ∃ g, v'.ownBlock = some g ∧ w.heap.size ≤ g) ∧ w5.heap[tb]? = some (.cells #[tv] 30 (0, 0)) := by
  have o1 : Only (fun b => tv.ownBlock = some b) w w5 := ((Only.refl _ w).alloc o).grown hg (fun b _ e => e)
  have kb : ∀ {a : Nat} {cs : Array Value} {T : Nat}, w.heap[a]? = some (.cells cs T (0, 0)) → T ≠ 9 → w5.heap[a]? = some (.cells cs T (0, 0)) := fun hh hT => o1.heap hh (fun q => row_ne hh h.own (fun e => hT e.symm) q)
  have r1 := kb h.ho (by decide)
  have s1 := kb h.hs (by decide)
  have t1 := kb h.ht (by decide)
  have n1 := kb h.hn (by decide)
  have o2 : Only (fun b => b = tb) w5 (w5.setCell ⟨tb, 0, none⟩ v') := (Only.refl (fun b => b = tb) w5).setCell (a := ⟨tb, 0, none⟩) (fun _ => rfl) _
  refine ⟨⟨o2.heap r1 (kind_ne r1 t1 (by decide)), o2.heap s1 (kind_ne s1 t1 (by decide)), heap_set_same (i := 0) (v := v') t1, o2.heap n1 (kind_ne n1 t1 (by decide)), h.os, ?_⟩, ?_, ?_, t1⟩
  · have := o2.owns hown (fun g hg e => by subst e; exact row_ne t1 hown (by decide) hg)
    simpa using this
  · exact (o1.mono (fun b _ q => .inr (.inr (.inr q)))).trans o2 (fun b _ q => .inr (.inr (.inl q)))
  · rcases hw with q | q
    · exact .inl q
    · exact .inr ⟨_, q, by simp⟩

theorem take1_end {w w1 w5 : World} {ob sb tb nb : Nat} {n : Int} {l : List ByteArray} {tv v' : Value} {x : ByteArray} {T : Prop} (hO : Only (fun b => b = ob) w w1) (hq : Tk (w5.setCell ⟨tb, 0, none⟩ v') ob sb tb nb n false (l ++ [x]) v' ∧ Only (TkP ob sb tb tv) w1 (w5.setCell ⟨tb, 0, none⟩ v') ∧ (v'.ownBlock = tv.ownBlock ∨ ∃ g, v'.ownBlock = some g ∧ w1.heap.size ≤ g) ∧ T) (b : Bool) :
    Ending.returned (.bool !b) = Ending.returned (.bool !b) ∧ ∃ tv', Tk ((w5.setCell ⟨tb, 0, none⟩ v').setCell ⟨sb, 0, none⟩ (.bool b)) ob sb tb nb n b (l ++ [x]) tv' ∧ Only (TkP ob sb tb tv) w ((w5.setCell ⟨tb, 0, none⟩ v').setCell ⟨sb, 0, none⟩ (.bool b)) ∧ (tv'.ownBlock = tv.ownBlock ∨ ∃ g, tv'.ownBlock = some g ∧ w.heap.size ≤ g) := by
  obtain ⟨hc, ho, ha, -⟩ := hq
  have o3 := (Only.refl (fun y => y = sb) (w5.setCell ⟨tb, 0, none⟩ v')).setCell (a := ⟨sb, 0, none⟩) (fun _ => rfl) (.bool b)
  refine ⟨rfl, v', ⟨o3.heap hc.ho hc.os, heap_set_same (i := 0) (v := .bool b) hc.hs, o3.heap hc.ht (kind_ne hc.ht hc.hs (by decide)), o3.heap hc.hn (kind_ne hc.hn hc.hs (by decide)), hc.os, o3.owns hc.own (fun g hg e => by subst e; exact row_ne hc.hs hc.own (by decide) hg)⟩, ?_, ?_⟩
  · exact ((hO.mono (fun _ _ q => .inl q)).trans ho (fun _ _ q => q)).trans o3 (fun _ _ q => .inr (.inl q))
  · rcases ha with q | ⟨g, q, hg⟩
    · exact .inl q
    · exact .inr ⟨g, q, Nat.le_trans hO.size hg⟩

set_option maxRecDepth 1000000 in
set_option maxHeartbeats 1000000 in
theorem take1 {w : World} {ob sb tb nb : Nat} {n : Int} {l : List ByteArray} {tv : Value} (h : Tk w ob sb tb nb n false l tv) (hl : l.length ≤ 900) (x : ByteArray) :
    Calls Tryz.prog 50 #[.string x, .pointer (some ⟨ob, 0, none⟩), .pointer (some ⟨sb, 0, none⟩), .pointer (some ⟨tb, 0, none⟩), .pointer (some ⟨nb, 0, none⟩)] w fun e w' =>
      e = .returned (.bool (!decide ((l.length : Int) + 1 = n))) ∧ ∃ tv', Tk w' ob sb tb nb n (decide ((l.length : Int) + 1 = n)) (l ++ [x]) tv' ∧ Only (TkP ob sb tb tv) w w' ∧ (tv'.ownBlock = tv.ownBlock ∨ ∃ g, tv'.ownBlock = some g ∧ w.heap.size ≤ g) := by
  obtain ⟨i0, hi, hz0, hz1, hz2⟩ := info_parts infoS
  have co := cell_of_heap (i := 0) h.ho rfl
  have cs := cell_of_heap (i := 0) h.hs rfl
  have fo := frozen_of_heap (i := 0) h.ho
  obtain ⟨ta, tc, rfl⟩ := owns_slice_len h.own
  have hO : Only (fun b => b = ob) w (w.setCell ⟨ob, 0, none⟩ (.bool false)) := (Only.refl (fun b => b = ob) w).setCell (a := ⟨ob, 0, none⟩) (fun _ => rfl) _
  have hW : Tk (w.setCell ⟨ob, 0, none⟩ (.bool false)) ob sb tb nb n false l (.slice ta l.length tc) :=
    ⟨heap_set_same (i := 0) (v := .bool false) h.ho, hO.heap h.hs (fun e => h.os e.symm), hO.heap h.ht (kind_ne h.ht h.ho (by decide)), hO.heap h.hn (kind_ne h.hn h.ho (by decide)), h.os, hO.owns h.own (fun g hg e => by subst e; exact row_ne h.ho h.own (by decide) hg)⟩
  have HO : Hid (Only (fun b => b = ob) w (w.setCell ⟨ob, 0, none⟩ (.bool false))) := hO
  clear hO h
  generalize hn : l.length = m at *
  have ct : (w.setCell ⟨ob, 0, none⟩ (.bool false)).cell? ⟨tb, 0, none⟩ = some (.slice ta m tc) := cell_of_heap (i := 0) hW.ht rfl
  have HW : Hid (Tk (w.setCell ⟨ob, 0, none⟩ (.bool false)) ob sb tb nb n false l (.slice ta m tc)) := hW
  have HT : Hid ((w.setCell ⟨ob, 0, none⟩ (.bool false)).ownsRow 0 9 1 (.slice ta m tc) m (l.map Value.string)) := by have := hW.own; rw [hn] at this; exact this
  have HX : Hid (∀ (j : Nat) (u : Value), [Value.string x][j]? = some u → ((w.setCell ⟨ob, 0, none⟩ (.bool false)).alloc (.cells #[.string x] 9)).cell? ((⟨w.heap.size, 0, none⟩ : Addr).add j) = some u) := by
    have q := cell_one_at (w.setCell ⟨ob, 0, none⟩ (.bool false)) (.string x) 9
    rw [World.size_setCell] at q
    exact q
  have h1000 : ¬ (1000 : Int) < (m : Int) + 1 := by omega
  clear hW
  obtain ⟨bb, hbb, hdd⟩ : ∃ bb, (((m : Int) + 1) == n) = bb ∧ decide ((m : Int) + 1 = n) = bb := ⟨_, rfl, rfl⟩
  rw [hdd]
  clear hdd
  cases bb
  · go_enter Tryz.func50, Tryz.ntmps50
    go_wp2_with (first | (at_builtin; refine wpList_append_at _ rfl _ _ 30 rfl 0 9 i0 (.string { data := #[] }) 1 16 Tryz.underlying30 hi hz0 hz1 hz2 rfl (by decide) (.slice ta m tc) m (l.map Value.string) rfl (HT.out.alloc _) ⟨w.heap.size, 0, none⟩ 1 1 [.string x] rfl rfl HX.out (fun x hx => by simp at hx; subst hx; rfl) (by unfold maxLen; omega) (by omega) (by simp) (by decide) ?_; intro v' w5 hown hgrow hnil
                          have q := HW.out.pushed (by rw [hn]; exact hown) hgrow hnil
                          obtain ⟨ao2, cp2, rfl⟩ := owns_slice_len hown
                          have ft := frozen_of_heap (i := 0) q.2.2.2
                          have ct5 := cell_of_heap (i := 0) q.2.2.2 rfl
                          have ds := cell_of_heap (i := 0) q.1.hs rfl
                          have dt := cell_of_heap (i := 0) q.1.ht rfl
                          have dn := cell_of_heap (i := 0) q.1.hn rfl
                          have fs := frozen_of_heap (i := 0) q.1.hs
                          have Q : Hid _ := q
                          clear hgrow hown hnil q ct))
    go_ret
    exact take1_end HO.out Q.out false
  · go_enter Tryz.func50, Tryz.ntmps50
    go_wp2_with (first | (at_builtin; refine wpList_append_at _ rfl _ _ 30 rfl 0 9 i0 (.string { data := #[] }) 1 16 Tryz.underlying30 hi hz0 hz1 hz2 rfl (by decide) (.slice ta m tc) m (l.map Value.string) rfl (HT.out.alloc _) ⟨w.heap.size, 0, none⟩ 1 1 [.string x] rfl rfl HX.out (fun x hx => by simp at hx; subst hx; rfl) (by unfold maxLen; omega) (by omega) (by simp) (by decide) ?_; intro v' w5 hown hgrow hnil
                          have q := HW.out.pushed (by rw [hn]; exact hown) hgrow hnil
                          obtain ⟨ao2, cp2, rfl⟩ := owns_slice_len hown
                          have ft := frozen_of_heap (i := 0) q.2.2.2
                          have ct5 := cell_of_heap (i := 0) q.2.2.2 rfl
                          have ds := cell_of_heap (i := 0) q.1.hs rfl
                          have dt := cell_of_heap (i := 0) q.1.ht rfl
                          have dn := cell_of_heap (i := 0) q.1.hn rfl
                          have fs := frozen_of_heap (i := 0) q.1.hs
                          have Q : Hid _ := q
                          clear hgrow hown hnil q ct))
    go_ret
    exact take1_end HO.out Q.out true
end Go.Proofs.YtihmgoahobbdkaaGreatDoor
namespace Go.Proofs.YtihmgoahobbdkaaGreatDoor
open Go.RowKit Go.Lib

/-- The first n of a list; below 1: all. -/
def firstN (n : Int) (ms : List ByteArray) : List ByteArray := if 1 ≤ n then ms.take n.toNat else ms
theorem row_at {w : World} {base e n cp : Nat} {ao : Option Addr} {xs : List Value} {j : Nat} {v : Value} (h : w.ownsRow base e 1 (.slice ao n cp) n xs) (hj : xs[j]? = some v) : ∃ g, ao = some ⟨g, 0, none⟩ ∧ w.cell? ⟨g, j, none⟩ = some v := by
  have hl := h.1
  rcases h.2 with ⟨he, h0⟩ | ⟨g, cap, cur, he, -, hg, -, -, -, ht⟩
  · subst h0
    have : xs = [] := List.length_eq_zero_iff.1 (by omega)
    subst this
    simp at hj
  · injection he with he _ _
    refine ⟨g, he, cell_of_heap hg ?_⟩
    rw [← ht, List.getElem?_take] at hj
    split at hj
    · simpa using hj
    · cases hj
abbrev Box3 (ob sb tb : Nat) : Nat → Prop := fun b => b = ob ∨ b = sb ∨ b = tb
theorem Tk.only {w w' : World} {ob sb tb nb : Nat} {n : Int} {st : Bool} {l : List ByteArray} {tv : Value} {P : Nat → Prop} (h : Tk w ob sb tb nb n st l tv) (ho : Only P w w') (h1 : ¬ P ob) (h2 : ¬ P sb) (h3 : ¬ P tb) (h5 : ¬ P nb) (h6 : ∀ g, tv.ownBlock = some g → ¬ P g) : Tk w' ob sb tb nb n st l tv :=
  ⟨ho.heap h.ho h1, ho.heap h.hs h2, ho.heap h.ht h3, ho.heap h.hn h5, h.os, ho.owns h.own h6⟩
/-- Where the iterator stands: j names have been handed over. -/
structure Gone (w wr : World) (ob sb tb nb : Nat) (n : Int) (ms : List ByteArray) (j : Nat) (tv : Value) : Prop where
  col : Tk wr ob sb tb nb n false (ms.take j) tv
  only : Only (Box3 ob sb tb) w wr
  tnew : ∀ g, tv.ownBlock = some g → w.heap.size ≤ g
theorem new_of {w wr : World} (hs : w.heap.size ≤ wr.heap.size) {tv tv' : Value} (h : ∀ g, tv.ownBlock = some g → w.heap.size ≤ g) (hh : tv'.ownBlock = tv.ownBlock ∨ ∃ g, tv'.ownBlock = some g ∧ wr.heap.size ≤ g) : ∀ g, tv'.ownBlock = some g → w.heap.size ≤ g := by
  intro g hg
  rcases hh with q | ⟨g', q, hq⟩
  · exact h g (q ▸ hg)
  · rw [hg] at q; injection q with q; omega

set_option maxRecDepth 1000000 in
set_option maxHeartbeats 1000000 in
theorem eachRun {w : World} {base : Nat} {lv : Value} {ms : List ByteArray} (hl : w.ownsRow base 9 1 lv ms.length (ms.map Value.string)) (h16 : ms.length ≤ 900) {Bx ob sb tb nb : Nat} (hBx : w.heap[Bx]? = some (.cells #[lv] 30 (0, 0))) {n : Int} (hc : Tk w ob sb tb nb n false [] (.slice none 0 0)) :
    Calls Tryz.prog 75 #[.func (.func 50) #[] #[.pointer (some ⟨ob, 0, none⟩), .pointer (some ⟨sb, 0, none⟩), .pointer (some ⟨tb, 0, none⟩), .pointer (some ⟨nb, 0, none⟩)], .pointer (some ⟨Bx, 0, none⟩)] w fun e w' =>
      e = .returned (.tuple #[]) ∧ ∃ st tv, Tk w' ob sb tb nb n st (firstN n ms) tv ∧ Only (Box3 ob sb tb) w w' := by
  have cB := cell_of_heap (i := 0) hBx rfl
  obtain ⟨ao, cp, rfl⟩ := owns_slice_len hl
  have HL : Hid (∀ w', Only (Box3 ob sb tb) w w' → w'.ownsRow base 9 1 (.slice ao ms.length cp) ms.length (ms.map Value.string)) := fun w' ho => ho.owns hl (fun g hg q => by
    rcases q with q | q | q
    · subst q; exact row_ne hc.ho hl (by decide) hg
    · subst q; exact row_ne hc.hs hl (by decide) hg
    · subst q; exact row_ne hc.ht hl (by decide) hg)
  have G0 : Hid (Gone w w ob sb tb nb n ms 0 (.slice none 0 0)) := ⟨by rw [List.take_zero]; exact hc, Only.refl _ _, (fun g hg => by cases hg)⟩
  clear hl hBx hc
  generalize hm : ms.length = m at *
  go_enter Tryz.func75, Tryz.ntmps75
  go_wp2_with fail
  go_loopw [7] (fun v7 wr => ∃ (j : Nat) (tv : Value), v7 = .int .i64 j ∧ j ≤ m ∧ (1 ≤ n → (j : Int) < n) ∧ Hid (Gone w wr ob sb tb nb n ms j tv)) (fun v7 _ => m - (intOf v7).toNat)
  case atStart => exact ⟨0, _, rfl, Nat.zero_le _, by omega, G0⟩
  case round =>
    obtain ⟨j, tv, rfl, hj, hjn, HG⟩ := hrel
    clear G0
    rcases Nat.lt_or_ge j m with hlt | hge
    · obtain ⟨x, hx⟩ : ∃ x, ms[j]? = some x := ⟨ms[j], List.getElem?_eq_getElem (by omega)⟩
      obtain ⟨g, he, q1⟩ := row_at (HL.out wr HG.out.only) (j := j) (v := .string x) (by rw [List.getElem?_map, hx]; rfl)
      subst he
      have HTK : Hid (ms.take (j + 1) = ms.take j ++ [x]) := by rw [List.take_add_one, hx]; rfl
      have hlj : (ms.take j).length = j := by rw [List.length_take]; omega
      have hco := take1 HG.out.col (by omega) x
      rw [hlj] at hco
      have hlt2 : (j : Int) < m := by omega
      clear hx hlj
      go_wp2_with fail
      refine hco.mono ?_
      rintro e w2 ⟨rfl, tv', hcol, hon, ht⟩
      clear hco q1
      have only2 : Only (Box3 ob sb tb) w w2 := HG.out.only.trans hon (fun b hb q => by
        rcases q with q | q | q | q
        · exact .inl q
        · exact .inr (.inl q)
        · exact .inr (.inr q)
        · have := HG.out.tnew b q; omega)
      cases hst : decide ((j : Int) + 1 = n) with
      | true =>
        have hjn1 : (j : Int) + 1 = n := of_decide_eq_true hst
        rw [hst] at hcol
        have HR : Hid (Tk w2 ob sb tb nb n true (firstN n ms) tv' ∧ Only (Box3 ob sb tb) w w2) := ⟨by unfold firstN; rw [if_pos (by omega), show n.toNat = j + 1 by omega, HTK.out]; exact hcol, only2⟩
        clear hcol hon ht only2 hst
        go_wp2
        refine bodyPost_ret (results_none rfl _ _ _) rfl ?_
        exact ⟨rfl, _, _, HR.out.1, HR.out.2⟩
      | false =>
        have hjn1 : ¬ (j : Int) + 1 = n := of_decide_eq_false hst
        rw [hst] at hcol
        have HR : Hid (Gone w w2 ob sb tb nb n ms (j + 1) tv') := ⟨by rw [HTK.out]; exact hcol, only2, new_of HG.out.only.size HG.out.tnew ht⟩
        clear hcol hon ht only2 hst
        go_wp2
        go_roundw
        case rel => exact ⟨j + 1, tv', by go_num, by omega, by omega, HR⟩
        case measure => simp [intOf]; omega
    · have HR : Hid (Tk wr ob sb tb nb n false (firstN n ms) tv ∧ Only (Box3 ob sb tb) w wr) := ⟨by
        have h1 := HG.out.col
        have h2 : ms.take j = firstN n ms := by
          unfold firstN
          split
          · rw [List.take_of_length_le (by omega), List.take_of_length_le (by omega)]
          · rw [List.take_of_length_le (by omega)]
        rw [h2] at h1
        exact h1, HG.out.only⟩
      have hge2 : ¬ (j : Int) < m := by omega
      go_wp2
      go_end0
      refine ⟨rfl, ?_⟩
      first | exact ⟨_, _, HR.out.1, HR.out.2⟩ | exact ⟨.inl ⟨_, HR.out.1⟩, HR.out.2⟩
end Go.Proofs.YtihmgoahobbdkaaGreatDoor
namespace Go.Proofs.YtihmgoahobbdkaaGreatDoor
open Go.RowKit Go.Lib

theorem equalIn_func_nil {P : Program} (w : World) (d : Nat) (t : TypeId) {ps rs : Array TypeId} {v : Bool} (f : Fn) (a b : Array Value) (h : P.underlying t = some (.func ps rs v)) : (Op.equalIn (d + 1) t (.func f a b) .nilFunc).run P w = .ok false w := by
  simp [Op.equalIn, run_underlying h]
theorem eql_func_nil {P : Program} (w : World) (t : TypeId) {ps rs : Array TypeId} {v : Bool} (f : Fn) (a b : Array Value) (h : P.underlying t = some (.func ps rs v)) : (binOp .eql t (.func f a b) .nilFunc).run P w = .ok (.bool false) w := by
  simp only [binOp]
  simp [Op.equal, Op.maxDepth, equalIn_func_nil w 9999 t f a b h]
theorem four_blocks (w : World) (a b c d : Array Value) (A B C D : TypeId) (W : World) (hW : W = (((w.alloc (.cells a A)).alloc (.cells b B)).alloc (.cells c C)).alloc (.cells d D)) :
    W.heap[w.heap.size]? = some (.cells a A (0, 0)) ∧ W.heap[w.heap.size + 1]? = some (.cells b B (0, 0)) ∧ W.heap[w.heap.size + 1 + 1]? = some (.cells c C (0, 0)) ∧ W.heap[w.heap.size + 1 + 1 + 1]? = some (.cells d D (0, 0)) ∧ Below w.heap.size w W := by
  subst hW
  have h1 := block_new w a A
  have h2 := block_new (w.alloc (.cells a A)) b B
  have h3 := block_new ((w.alloc (.cells a A)).alloc (.cells b B)) c C
  have h4 := block_new (((w.alloc (.cells a A)).alloc (.cells b B)).alloc (.cells c C)) d D
  simp only [World.size_alloc] at h2 h3 h4
  refine ⟨heap_alloc_old (heap_alloc_old (heap_alloc_old h1)), heap_alloc_old (heap_alloc_old h2), heap_alloc_old h3, h4, ?_⟩
  exact (((((Below.refl _ w).alloc (Nat.le_refl _) _).alloc (by simp) _).alloc (by simp; omega) _).alloc (by simp; omega) _)
theorem owns_below {w w' : World} {base e size n : Nat} {v : Value} {xs : List Value} (h : w.ownsRow base e size v n xs) (hb : Below w.heap.size w w') : w'.ownsRow base e size v n xs :=
  (Only.of_below (P := fun _ => False) hb).owns h (fun _ _ => id)
set_option maxRecDepth 1000000 in
set_option maxHeartbeats 1000000 in
theorem takenRun {w : World} {base : Nat} {lv : Value} {ms : List ByteArray} (hl : w.ownsRow base 9 1 lv ms.length (ms.map Value.string)) (h16 : ms.length ≤ 900) {Bx : Nat} (hBx : w.heap[Bx]? = some (.cells #[lv] 30 (0, 0))) (n : Int) :
    Calls Tryz.prog 29 #[.func (.func 75) #[] #[.pointer (some ⟨Bx, 0, none⟩)], .int .i64 n] w fun e w' => ∃ tv, e = .returned (.tuple #[tv, .bool true]) ∧ Below w.heap.size w w' ∧ w'.ownsRow 0 9 1 tv (firstN n ms).length ((firstN n ms).map Value.string) := by
  have hmf : ∀ (fn : Fn) (first cap : Array Value) (w : World), (Instr.makeFunc fn first cap).run Tryz.prog w = .ok (.func fn first cap) w := fun _ _ _ _ => rfl
  have hfn : ∀ (w : World) (f : Fn) (a b : Array Value), (binOp .eql 74 (.func f a b) .nilFunc).run Tryz.prog w = .ok (.bool false) w := fun w f a b => eql_func_nil w _ f a b Tryz.underlying74
  have HL : Hid (w.ownsRow base 9 1 lv ms.length (ms.map Value.string)) := hl
  have HBX : Hid (w.heap[Bx]? = some (.cells #[lv] 30 (0, 0))) := hBx
  clear hl hBx
  go_enter Tryz.func29, Tryz.ntmps29
  go_wp2_with fail
  obtain ⟨W, hW⟩ : ∃ W, W = ((((w.alloc (.cells #[.int .i64 n] 3)).alloc (.cells #[.slice none 0 0] 30)).alloc (.cells #[.bool false] 4)).alloc (.cells #[.bool false] 4)) := ⟨_, rfl⟩
  obtain ⟨s0, s1, s2, s3, hB⟩ := four_blocks w _ _ _ _ _ _ _ _ W hW
  rw [← hW]
  clear hW
  have hTk : Tk W (w.heap.size + 1 + 1 + 1) (w.heap.size + 1 + 1) (w.heap.size + 1) w.heap.size n false [] (.slice none 0 0) := ⟨s3, s2, s1, s0, by omega, World.ownsRow_nil _ _ _ _⟩
  have hrun := eachRun (owns_below HL.out hB) h16 ((hB.block _ (heap_lt HBX.out)).trans HBX.out) hTk
  have HB : Hid (Below w.heap.size w W) := hB
  clear s0 s1 s2 s3 hB hTk HL HBX
  refine hrun.mono ?_
  rintro e w2 ⟨rfl, st, tv, hc2, ho2⟩
  have FIN : Hid (Below w.heap.size w w2 ∧ w2.ownsRow 0 9 1 tv (firstN n ms).length ((firstN n ms).map Value.string)) := by
    refine ⟨HB.out.trans (ho2.below HB.out.size (fun b q => ?_)), hc2.own⟩
    rcases q with q | q | q <;> omega
  have ct := cell_of_heap (i := 0) hc2.ht rfl
  have co := cell_of_heap (i := 0) hc2.ho rfl
  clear hc2 ho2 hrun HB
  go_wp2_with fail
  go_quiet (fail)
  go_wp2
  refine bodyPost_ret (v := .tuple #[tv, .bool true]) (by simp [results, Tryz.results29, go_sem]) rfl ?_
  exact ⟨_, rfl, ⟨FIN.out.1.os, FIN.out.1.tape, FIN.out.1.output, FIN.out.1.size, FIN.out.1.block⟩, FIN.out.2⟩
end Go.Proofs.YtihmgoahobbdkaaGreatDoor
namespace Go.Proofs.YtihmgoahobbdkaaGreatDoor
open Go.RowKit Go.Lib

/-- A list of texts that can be read. -/
def Txts (w : World) (v : Value) (l : List ByteArray) : Prop :=
  ∃ (ao : Option Addr) (cp : Nat), v = .slice ao l.length cp ∧ l.length ≤ cp ∧ ∀ (j : Nat) x, l[j]? = some x → ∃ g, ao = some ⟨g, 0, none⟩ ∧ w.cell? ⟨g, j, none⟩ = some (.string x)
theorem Txts.of_owns {w : World} {base : Nat} {v : Value} {l : List ByteArray} (h : w.ownsRow base 9 1 v l.length (l.map Value.string)) : Txts w v l := by
  obtain ⟨ao, cp, rfl⟩ := owns_slice_len h
  refine ⟨ao, cp, rfl, ?_, fun j x hx => row_at h (by rw [List.getElem?_map, hx]; rfl)⟩
  rcases h.2 with ⟨he, h0⟩ | ⟨g, cap, cur, he, -, hg, hc, -⟩
  · omega
  · injection he with _ _ he; omega
theorem Txts.below {w w' : World} {v : Value} {l : List ByteArray} (h : Txts w v l) (hb : Below w.heap.size w w') : Txts w' v l := by
  obtain ⟨ao, cp, h1, h2, h3⟩ := h
  refine ⟨ao, cp, h1, h2, fun j x hx => ?_⟩
  obtain ⟨g, h4, h5⟩ := h3 j x hx
  exact ⟨g, h4, (World.cell?_of_block (hb.block g (World.block_lt_of_cell? w _ h5))).trans h5⟩

set_option maxRecDepth 1000000 in
theorem law_first {w : World} {v : Value} {l : List ByteArray} (h : Txts w v l) (n : Int) :
    Calls Tryz.prog 12 #[v, .int .i64 n] w fun e w' => (∃ v', e = .returned v' ∧ Txts w v' (firstN n l)) ∧ w' = w := by
  obtain ⟨ao, cp, rfl, hcp, hx⟩ := h
  have HX : Hid _ := hx
  clear hx
  generalize hm : l.length = m at *
  by_cases h1 : n < 1
  · have HF : Hid (Txts w (.slice ao m cp) (firstN n l)) := by
      unfold firstN
      rw [if_neg (by omega)]
      exact ⟨ao, cp, by rw [hm], by omega, HX.out⟩
    go_enter Tryz.func12, Tryz.ntmps12
    go_wp2
    go_ret
    exact ⟨⟨_, rfl, HF.out⟩, rfl⟩
  · by_cases h2 : n ≥ (m : Int)
    · have HF : Hid (Txts w (.slice ao m cp) (firstN n l)) := by
        unfold firstN
        rw [if_pos (by omega), List.take_of_length_le (by omega)]
        exact ⟨ao, cp, by rw [hm], by omega, HX.out⟩
      go_enter Tryz.func12, Tryz.ntmps12
      go_wp2
      go_ret
      exact ⟨⟨_, rfl, HF.out⟩, rfl⟩
    · obtain ⟨k, rfl⟩ : ∃ k : Nat, n = (k : Int) := ⟨n.toNat, by omega⟩
      have HF : Hid (Txts w (.slice ao k cp) (firstN k l)) := by
        unfold firstN
        rw [if_pos (by omega)]
        have hl : (l.take (k : Int).toNat).length = k := by simp; omega
        refine ⟨ao, cp, by rw [hl], by omega, fun j x hj => ?_⟩
        rw [List.getElem?_take] at hj
        split at hj
        · exact HX.out j x hj
        · cases hj
      have hkc : k ≤ cp := by omega
      go_enter Tryz.func12, Tryz.ntmps12
      go_wp2
      go_ret
      exact ⟨⟨_, rfl, HF.out⟩, rfl⟩

set_option maxRecDepth 1000000 in
theorem law_same {w : World} {va vb : Value} {l : List ByteArray} (ha : Txts w va l) (hb : Txts w vb l) (hl : l.length ≤ 900) :
    Calls Tryz.prog 13 #[va, vb] w fun e w' => e = .returned (.bool true) ∧ Below w.heap.size w w' := by
  obtain ⟨ao, ca, rfl, -, hxa⟩ := ha
  obtain ⟨bo, cb, rfl, -, hxb⟩ := hb
  have HA : Hid _ := hxa
  have HB : Hid _ := hxb
  clear hxa hxb
  generalize hm : l.length = m at *
  go_enter Tryz.func13, Tryz.ntmps13
  go_wp2_with fail
  go_loopw [5] (fun v5 wr => ∃ (j q : Nat), v5 = .int .i64 j ∧ j ≤ m ∧ wr = w.drewN q) (fun v5 _ => m - (intOf v5).toNat)
  case atStart => exact ⟨0, 0, rfl, Nat.zero_le _, rfl⟩
  case round =>
    obtain ⟨j, q, rfl, hj, rfl⟩ := hrel
    rcases Nat.lt_or_ge j m with hlt | hge
    · obtain ⟨x, hx⟩ : ∃ x, l[j]? = some x := ⟨l[j], List.getElem?_eq_getElem (by omega)⟩
      obtain ⟨g, he, c1⟩ := HA.out j x hx
      obtain ⟨g2, he2, c2⟩ := HB.out j x hx
      subst he he2
      have hlt2 : (j : Int) < m := by omega
      clear hx
      go_wp2_with fail
      go_quiet (fail)
      go_wp2
      go_roundw
      case rel => exact ⟨j + 1, _, by go_num, by omega, rfl⟩
      case measure => simp [intOf]; omega
    · have hge2 : ¬ (j : Int) < m := by omega
      go_wp2
      go_ret
      exact ⟨rfl, below_drewN (Below.refl _ _) q⟩
end Go.Proofs.YtihmgoahobbdkaaGreatDoor
namespace Go.Proofs.YtihmgoahobbdkaaGreatDoor
open Go.RowKit Go.Lib

set_option maxRecDepth 1000000 in
theorem code_each {w : World} (ao : Option Addr) (m cp : Nat) :
    Calls Tryz.prog 49 #[.slice ao m cp] w fun e w' => e = .returned (.func (.func 75) #[] #[.pointer (some ⟨w.heap.size, 0, none⟩)]) ∧ w' = w.alloc (.cells #[.slice ao m cp] 30) := by
  have hmf : ∀ (fn : Fn) (first cap : Array Value) (w : World), (Instr.makeFunc fn first cap).run Tryz.prog w = .ok (.func fn first cap) w := fun _ _ _ _ => rfl
  go_enter Tryz.func49, Tryz.ntmps49
  go_wp2
  go_ret
  exact ⟨rfl, rfl⟩

set_option maxRecDepth 1000000 in
theorem code_empty {w : World} {pb : Nat} {a : Addr} (h : w.heap[pb]? = some (.cells #[.pointer (some a)] 109 (0, 0))) :
    Calls Tryz.prog 48 #[.pointer (some ⟨pb, 0, none⟩)] w fun e w' => e = .returned (.bool false) ∧ w' = w := by
  have c0 := cell_of_heap (i := 0) h rfl
  clear h
  go_enter Tryz.func48, Tryz.ntmps48
  go_wp2
  go_ret
  exact ⟨rfl, rfl⟩

set_option maxRecDepth 1000000 in
theorem code_Names {w : World} {pb tb : Nat} {rv : Value} {ao : Option Addr} {m cp : Nat} (h : w.heap[pb]? = some (.cells #[.pointer (some ⟨tb, 0, none⟩)] 109 (0, 0))) (ht : w.heap[tb]? = some (.cells #[rv, .slice ao m cp] 129 (0, 0))) :
    Calls Tryz.prog 28 #[.pointer (some ⟨pb, 0, none⟩)] w fun e w' => e = .returned (.func (.func 75) #[] #[.pointer (some ⟨w.heap.size, 0, none⟩)]) ∧ w' = w.alloc (.cells #[.slice ao m cp] 30) := by
  have hem := code_empty h
  have c0 : w.cell? ⟨pb, 0, none⟩ = some (.pointer (some ⟨tb, 0, none⟩)) := cell_of_heap (i := 0) h rfl
  have c1 : w.cell? ⟨tb, 1, none⟩ = some (.slice ao m cp) := cell_of_heap (i := 1) ht rfl
  have hea := code_each (w := w) ao m cp
  clear h ht
  go_enter Tryz.func28, Tryz.ntmps28
  go_wp2_with fail
  refine hem.mono ?_
  rintro e w' ⟨rfl, hw⟩
  have hw := hw.symm
  subst hw
  go_wp2_with fail
  refine hea.mono ?_
  rintro e w' ⟨rfl, rfl⟩
  go_wp2
  go_ret
  exact ⟨rfl, rfl⟩
end Go.Proofs.YtihmgoahobbdkaaGreatDoor
