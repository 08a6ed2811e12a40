/-
  WHAT A CALL LEAVES ALONE ('Only'), and blocks that are two.
-/
import Derived.Test.YtihmgoahobbdkaaGreatDoorJC11
import Derived.Lib.OwnKind
import Derived.Lib.SliceRun
import Derived.Test.YtihmgoahobbdkaaGreatDoorProg
import Derived.BigQuiet
import Derived.BigRegion
namespace Go.Proofs.YtihmgoahobbdkaaGreatDoor
open Go.RowKit Go.Lib

/-- All blocks that were there, but those of P, are as they were. -/
structure Only (P : Nat → Prop) (w w' : World) : Prop where
  os : w'.os = w.os
  tape : w'.tape = w.tape
  output : w'.output = w.output
  size : w.heap.size ≤ w'.heap.size
  block : ∀ k, k < w.heap.size → ¬ P k → w'.heap[k]? = w.heap[k]?
namespace Only
variable {P Q : Nat → Prop} {w w1 w2 : World}
theorem refl (P : Nat → Prop) (w : World) : Only P w w := ⟨rfl, rfl, rfl, Nat.le_refl _, fun _ _ _ => rfl⟩
theorem trans (h : Only P w w1) (k : Only Q w1 w2) (hq : ∀ b, b < w.heap.size → Q b → P b) : Only P w w2 :=
  ⟨k.os.trans h.os, k.tape.trans h.tape, k.output.trans h.output, Nat.le_trans h.size k.size, fun i hi hne => (k.block i (Nat.lt_of_lt_of_le hi h.size) (fun q => hne (hq i hi q))).trans (h.block i hi hne)⟩
theorem mono (h : Only P w w1) (hq : ∀ b, b < w.heap.size → P b → Q b) : Only Q w w1 := ⟨h.os, h.tape, h.output, h.size, fun k hk hn => h.block k hk (fun q => hn (hq k hk q))⟩
theorem of_below (h : Below w.heap.size w w1) : Only P w w1 := ⟨h.os, h.tape, h.output, h.size, fun k hk _ => h.block k hk⟩
theorem below (h : Only P w w1) {B : Nat} (hB : B ≤ w.heap.size) (hP : ∀ b, P b → B ≤ b) : Below B w w1 := ⟨h.os, h.tape, h.output, h.size, fun k hk => h.block k (by omega) (fun q => by have := hP k q; omega)⟩
theorem alloc (h : Only P w w1) (o : Obj) : Only P w (w1.alloc o) :=
  ⟨h.os, h.tape, h.output, by simp; exact Nat.le_succ_of_le h.size, fun k hk hne => (Below.heap_alloc w1 o k (Nat.lt_of_lt_of_le hk h.size)).trans (h.block k hk hne)⟩
theorem drew (h : Only P w w1) : Only P w w1.drew := ⟨h.os, h.tape, h.output, h.size, h.block⟩
theorem drewN (h : Only P w w1) (n : Nat) : Only P w (w1.drewN n) := ⟨h.os, h.tape, h.output, h.size, h.block⟩
theorem setCell (h : Only P w w1) {a : Addr} (ha : a.block < w.heap.size → P a.block) (v : Value) : Only P w (w1.setCell a v) :=
  ⟨h.os, h.tape, h.output, by simp; exact h.size, fun k hk hne => (Below.heap_setCell w1 _ v k (fun e => by subst e; exact hne (ha hk))).trans (h.block k hk hne)⟩
theorem grown (h : Only P w w1) {row : Option Nat} (hg : w1.grownBy w2 row) (hr : ∀ b, b < w.heap.size → row = some b → P b) : Only P w w2 :=
  ⟨hg.os.trans h.os, hg.tape.trans h.tape, hg.output.trans h.output, Nat.le_trans h.size hg.size, fun k hk hne => (hg.block k (Nat.lt_of_lt_of_le hk h.size) (fun e => hne (hr k hk e.symm))).trans (h.block k hk hne)⟩
theorem heap (h : Only P w w1) {k : Nat} {o : Obj} (hk : w.heap[k]? = some o) (hne : ¬ P k) : w1.heap[k]? = some o := (h.block k (heap_lt hk) hne).trans hk
theorem cell (h : Only P w w1) {a : Addr} {v : Value} (hc : w.cell? a = some v) (hne : ¬ P a.block) : w1.cell? a = some v :=
  (World.cell?_of_block (h.block a.block (World.block_lt_of_cell? w a hc) hne)).trans hc
theorem owns (h : Only P w w1) {base e size n : Nat} {v : Value} {xs : List Value} (ho : w.ownsRow base e size v n xs) (hne : ∀ g, v.ownBlock = some g → ¬ P g) : w1.ownsRow base e size v n xs := by
  refine ⟨ho.1, ?_⟩
  rcases ho.2 with hn | ⟨g, cap, cur, rfl, hbg, hg, rest⟩
  · exact .inl hn
  · exact .inr ⟨g, cap, cur, rfl, hbg, h.heap hg (hne g rfl), rest⟩
end Only
theorem below_drewN {B : Nat} {w w1 : World} (h : Below B w w1) (n : Nat) : Below B w (w1.drewN n) := ⟨h.os, h.tape, h.output, h.size, h.block⟩
theorem cell_past {w : World} {a : Addr} {v : Value} (h : w.cell? a = some v) (o : Obj) : (w.alloc o).cell? a = some v :=
  (World.cell?_of_block (Below.heap_alloc w o a.block (World.block_lt_of_cell? w a h))).trans h
theorem block_new (w : World) (cs : Array Value) (T : TypeId) : (w.alloc (.cells cs T)).heap[w.heap.size]? = some (.cells cs T (0, 0)) := heap_alloc_new w _
theorem cells_two_new (w : World) (a b : Value) (T : TypeId) : ∀ (j : Nat) (u : Value), [a, b][j]? = some u → (w.alloc (.cells #[a, b] T)).cell? ((⟨w.heap.size, 0, none⟩ : Addr).add j) = some u := by
  intro j u hu
  rw [Addr.add_lit]
  refine cell_of_heap (block_new w #[a, b] T) ?_
  rw [Nat.zero_add]
  simpa using hu
theorem two_one {a b : Value} (ha : a.oneCell' = true) (hb : b.oneCell' = true) : ∀ u ∈ [a, b], u.oneCell' = true := by
  intro u hu
  simp only [List.mem_cons, List.not_mem_nil, or_false] at hu
  rcases hu with rfl | rfl
  · exact ha
  · exact hb
/-- Two blocks of other types are two. -/
theorem kind_ne {w : World} {a b : Nat} {cs ds : Array Value} {T U : Nat} {y z : Nat × Nat} (h : w.heap[a]? = some (.cells cs T y)) (k : w.heap[b]? = some (.cells ds U z)) (hne : T ≠ U) : a ≠ b := by
  intro e
  subst e
  rw [h] at k
  injection k with k
  injection k with _ k
  exact hne k
theorem row_ne {w : World} {a base e size n : Nat} {cs : Array Value} {T : Nat} {y : Nat × Nat} {v : Value} {xs : List Value} (h : w.heap[a]? = some (.cells cs T y)) (ho : w.ownsRow base e size v n xs) (hne : e ≠ T) : v.ownBlock ≠ some a := by
  intro e'
  obtain ⟨c, fz, q⟩ := ownsRow_kind ho a e'
  exact kind_ne q h hne rfl
theorem rows_ne {w : World} {base e size n base' e' size' n' : Nat} {v v' : Value} {xs xs' : List Value} (ho : w.ownsRow base e size v n xs) (ho' : w.ownsRow base' e' size' v' n' xs') (hne : e ≠ e') : ∀ g, v.ownBlock = some g → v'.ownBlock ≠ some g := by
  intro g hg
  obtain ⟨c, fz, q⟩ := ownsRow_kind ho g hg
  exact row_ne q ho' (fun e => hne e.symm)
theorem owns_slice_len {w : World} {base e size n : Nat} {v : Value} {xs : List Value} (h : w.ownsRow base e size v n xs) : ∃ ao cp, v = .slice ao n cp := by
  rcases h.2 with ⟨rfl, rfl⟩ | ⟨g, cap, cur, rfl, -⟩
  · exact ⟨_, _, rfl⟩
  · exact ⟨_, _, rfl⟩

end Go.Proofs.YtihmgoahobbdkaaGreatDoor
namespace Go.Proofs.YtihmgoahobbdkaaGreatDoor
open Go.RowKit Go.Lib

theorem infoS : (Tryz.prog.info? 9).map (fun i => (i.zero, i.size, i.bytes)) = some (some (.string { data := #[] }), 1, 16) := by kernel_rfl
theorem cell_one_at (w : World) (a : Value) (t : TypeId) : ∀ (j : Nat) (u : Value), [a][j]? = some u → (w.alloc (.cells #[a] t)).cell? ((⟨w.heap.size, 0, none⟩ : Addr).add j) = some u := by
  intro j u hu
  cases j with
  | zero => injection hu with hu; subst hu; exact cell_of_heap (block_new w #[a] t) rfl
  | succ j => simp at hu
/-- What the caller's function has taken, in its variables. -/
structure Tk (w : World) (ob sb tb nb : Nat) (n : Int) (st : Bool) (l : List ByteArray) (tv : Value) : Prop where
  ho : w.heap[ob]? = some (.cells #[.bool false] 4 (0, 0))
  hs : w.heap[sb]? = some (.cells #[.bool st] 4 (0, 0))
  ht : w.heap[tb]? = some (.cells #[tv] 30 (0, 0))
  hn : w.heap[nb]? = some (.cells #[.int .i64 n] 3 (0, 0))
  os : ob ≠ sb
  own : w.ownsRow 0 9 1 tv l.length (l.map Value.string)
/-- The blocks that taking may turn. -/
abbrev TkP (ob sb tb : Nat) (tv : Value) : Nat → Prop := fun b => b = ob ∨ b = sb ∨ b = tb ∨ tv.ownBlock = some b

/-- One more is in the list. -/
theorem Tk.pushed {w w5 : World} {ob sb tb nb : Nat} {n : Int} {l : List ByteArray} {tv v' : Value} {x : ByteArray} {o : Obj} (h : Tk w ob sb tb nb n false l tv) (hown : w5.ownsRow 0 9 1 v' (l.length + 1) (l.map Value.string ++ [.string x])) (hg : (w.alloc o).grownBy w5 tv.ownBlock)
    (hw : v'.ownBlock = tv.ownBlock ∨ v'.ownBlock = some (w.alloc o).heap.size) :
    Tk (w5.setCell ⟨tb, 0, none⟩ v') ob sb tb nb n false (l ++ [x]) v' ∧ Only (TkP ob sb tb tv) w (w5.setCell ⟨tb, 0, none⟩ v') ∧ (v'.ownBlock = tv.ownBlock ∨ ∃ g, v'.ownBlock = some g ∧ w.heap.size ≤ g) ∧ w5.heap[tb]? = some (.cells #[tv] 30 (0, 0)) := by
  have o1 : Only (fun b => tv.ownBlock = some b) w w5 := ((Only.refl _ w).alloc o).grown hg (fun b _ e => e)
  have kb : ∀ {a : Nat} {cs : Array Value} {T : Nat}, w.heap[a]? = some (.cells cs T (0, 0)) → T ≠ 9 → w5.heap[a]? = some (.cells cs T (0, 0)) := fun hh hT => o1.heap hh (fun q => row_ne hh h.own (fun e => hT e.symm) q)
  have r1 := kb h.ho (by decide)
  have s1 := kb h.hs (by decide)
  have t1 := kb h.ht (by decide)
  have n1 := kb h.hn (by decide)
  have o2 : Only (fun b => b = tb) w5 (w5.setCell ⟨tb, 0, none⟩ v') := (Only.refl (fun b => b = tb) w5).setCell (a := ⟨tb, 0, none⟩) (fun _ => rfl) _
  refine ⟨⟨o2.heap r1 (kind_ne r1 t1 (by decide)), o2.heap s1 (kind_ne s1 t1 (by decide)), heap_set_same (i := 0) (v := v') t1, o2.heap n1 (kind_ne n1 t1 (by decide)), h.os, ?_⟩, ?_, ?_, t1⟩
  · have := o2.owns hown (fun g hg e => by subst e; exact row_ne t1 hown (by decide) hg)
    simpa using this
  · exact (o1.mono (fun b _ q => .inr (.inr (.inr q)))).trans o2 (fun b _ q => .inr (.inr (.inl q)))
  · rcases hw with q | q
    · exact .inl q
    · exact .inr ⟨_, q, by simp⟩

theorem take1_end {w w1 w5 : World} {ob sb tb nb : Nat} {n : Int} {l : List ByteArray} {tv v' : Value} {x : ByteArray} {T : Prop} (hO : Only (fun b => b = ob) w w1) (hq : Tk (w5.setCell ⟨tb, 0, none⟩ v') ob sb tb nb n false (l ++ [x]) v' ∧ Only (TkP ob sb tb tv) w1 (w5.setCell ⟨tb, 0, none⟩ v') ∧ (v'.ownBlock = tv.ownBlock ∨ ∃ g, v'.ownBlock = some g ∧ w1.heap.size ≤ g) ∧ T) (b : Bool) :
    Ending.returned (.bool !b) = Ending.returned (.bool !b) ∧ ∃ tv', Tk ((w5.setCell ⟨tb, 0, none⟩ v').setCell ⟨sb, 0, none⟩ (.bool b)) ob sb tb nb n b (l ++ [x]) tv' ∧ Only (TkP ob sb tb tv) w ((w5.setCell ⟨tb, 0, none⟩ v').setCell ⟨sb, 0, none⟩ (.bool b)) ∧ (tv'.ownBlock = tv.ownBlock ∨ ∃ g, tv'.ownBlock = some g ∧ w.heap.size ≤ g) := by
  obtain ⟨hc, ho, ha, -⟩ := hq
  have o3 := (Only.refl (fun y => y = sb) (w5.setCell ⟨tb, 0, none⟩ v')).setCell (a := ⟨sb, 0, none⟩) (fun _ => rfl) (.bool b)
  refine ⟨rfl, v', ⟨o3.heap hc.ho hc.os, heap_set_same (i := 0) (v := .bool b) hc.hs, o3.heap hc.ht (kind_ne hc.ht hc.hs (by decide)), o3.heap hc.hn (kind_ne hc.hn hc.hs (by decide)), hc.os, o3.owns hc.own (fun g hg e => by subst e; exact row_ne hc.hs hc.own (by decide) hg)⟩, ?_, ?_⟩
  · exact ((hO.mono (fun _ _ q => .inl q)).trans ho (fun _ _ q => q)).trans o3 (fun _ _ q => .inr (.inl q))
  · rcases ha with q | ⟨g, q, hg⟩
    · exact .inl q
    · exact .inr ⟨g, q, Nat.le_trans hO.size hg⟩

set_option maxRecDepth 1000000 in
set_option maxHeartbeats 1000000 in
theorem take1 {w : World} {ob sb tb nb : Nat} {n : Int} {l : List ByteArray} {tv : Value} (h : Tk w ob sb tb nb n false l tv) (hl : l.length ≤ 900) (x : ByteArray) :
    Calls Tryz.prog 50 #[.string x, .pointer (some ⟨ob, 0, none⟩), .pointer (some ⟨sb, 0, none⟩), .pointer (some ⟨tb, 0, none⟩), .pointer (some ⟨nb, 0, none⟩)] w fun e w' =>
      e = .returned (.bool (!decide ((l.length : Int) + 1 = n))) ∧ ∃ tv', Tk w' ob sb tb nb n (decide ((l.length : Int) + 1 = n)) (l ++ [x]) tv' ∧ Only (TkP ob sb tb tv) w w' ∧ (tv'.ownBlock = tv.ownBlock ∨ ∃ g, tv'.ownBlock = some g ∧ w.heap.size ≤ g) := by
  obtain ⟨i0, hi, hz0, hz1, hz2⟩ := info_parts infoS
  have co := cell_of_heap (i := 0) h.ho rfl
  have cs := cell_of_heap (i := 0) h.hs rfl
  have fo := frozen_of_heap (i := 0) h.ho
  obtain ⟨ta, tc, rfl⟩ := owns_slice_len h.own
  have hO : Only (fun b => b = ob) w (w.setCell ⟨ob, 0, none⟩ (.bool false)) := (Only.refl (fun b => b = ob) w).setCell (a := ⟨ob, 0, none⟩) (fun _ => rfl) _
  have hW : Tk (w.setCell ⟨ob, 0, none⟩ (.bool false)) ob sb tb nb n false l (.slice ta l.length tc) :=
    ⟨heap_set_same (i := 0) (v := .bool false) h.ho, hO.heap h.hs (fun e => h.os e.symm), hO.heap h.ht (kind_ne h.ht h.ho (by decide)), hO.heap h.hn (kind_ne h.hn h.ho (by decide)), h.os, hO.owns h.own (fun g hg e => by subst e; exact row_ne h.ho h.own (by decide) hg)⟩
  have HO : Hid (Only (fun b => b = ob) w (w.setCell ⟨ob, 0, none⟩ (.bool false))) := hO
  clear hO h
  generalize hn : l.length = m at *
  have ct : (w.setCell ⟨ob, 0, none⟩ (.bool false)).cell? ⟨tb, 0, none⟩ = some (.slice ta m tc) := cell_of_heap (i := 0) hW.ht rfl
  have HW : Hid (Tk (w.setCell ⟨ob, 0, none⟩ (.bool false)) ob sb tb nb n false l (.slice ta m tc)) := hW
  have HT : Hid ((w.setCell ⟨ob, 0, none⟩ (.bool false)).ownsRow 0 9 1 (.slice ta m tc) m (l.map Value.string)) := by have := hW.own; rw [hn] at this; exact this
  have HX : Hid (∀ (j : Nat) (u : Value), [Value.string x][j]? = some u → ((w.setCell ⟨ob, 0, none⟩ (.bool false)).alloc (.cells #[.string x] 9)).cell? ((⟨w.heap.size, 0, none⟩ : Addr).add j) = some u) := by
    have q := cell_one_at (w.setCell ⟨ob, 0, none⟩ (.bool false)) (.string x) 9
    rw [World.size_setCell] at q
    exact q
  have h1000 : ¬ (1000 : Int) < (m : Int) + 1 := by omega
  clear hW
  obtain ⟨bb, hbb, hdd⟩ : ∃ bb, (((m : Int) + 1) == n) = bb ∧ decide ((m : Int) + 1 = n) = bb := ⟨_, rfl, rfl⟩
  rw [hdd]
  clear hdd
  cases bb
  · go_enter Tryz.func50, Tryz.ntmps50
    go_wp2_with (first | (at_builtin; refine wpList_append_at _ rfl _ _ 30 rfl 0 9 i0 (.string { data := #[] }) 1 16 Tryz.underlying30 hi hz0 hz1 hz2 rfl (by decide) (.slice ta m tc) m (l.map Value.string) rfl (HT.out.alloc _) ⟨w.heap.size, 0, none⟩ 1 1 [.string x] rfl rfl HX.out (fun x hx => by simp at hx; subst hx; rfl) (by unfold maxLen; omega) (by omega) (by simp) (by decide) ?_; intro v' w5 hown hgrow hnil
                          have q := HW.out.pushed (by rw [hn]; exact hown) hgrow hnil
                          obtain ⟨ao2, cp2, rfl⟩ := owns_slice_len hown
                          have ft := frozen_of_heap (i := 0) q.2.2.2
                          have ct5 := cell_of_heap (i := 0) q.2.2.2 rfl
                          have ds := cell_of_heap (i := 0) q.1.hs rfl
                          have dt := cell_of_heap (i := 0) q.1.ht rfl
                          have dn := cell_of_heap (i := 0) q.1.hn rfl
                          have fs := frozen_of_heap (i := 0) q.1.hs
                          have Q : Hid _ := q
                          clear hgrow hown hnil q ct))
    go_ret
    exact take1_end HO.out Q.out false
  · go_enter Tryz.func50, Tryz.ntmps50
    go_wp2_with (first | (at_builtin; refine wpList_append_at _ rfl _ _ 30 rfl 0 9 i0 (.string { data := #[] }) 1 16 Tryz.underlying30 hi hz0 hz1 hz2 rfl (by decide) (.slice ta m tc) m (l.map Value.string) rfl (HT.out.alloc _) ⟨w.heap.size, 0, none⟩ 1 1 [.string x] rfl rfl HX.out (fun x hx => by simp at hx; subst hx; rfl) (by unfold maxLen; omega) (by omega) (by simp) (by decide) ?_; intro v' w5 hown hgrow hnil
                          have q := HW.out.pushed (by rw [hn]; exact hown) hgrow hnil
                          obtain ⟨ao2, cp2, rfl⟩ := owns_slice_len hown
                          have ft := frozen_of_heap (i := 0) q.2.2.2
                          have ct5 := cell_of_heap (i := 0) q.2.2.2 rfl
                          have ds := cell_of_heap (i := 0) q.1.hs rfl
                          have dt := cell_of_heap (i := 0) q.1.ht rfl
                          have dn := cell_of_heap (i := 0) q.1.hn rfl
                          have fs := frozen_of_heap (i := 0) q.1.hs
                          have Q : Hid _ := q
                          clear hgrow hown hnil q ct))
    go_ret
    exact take1_end HO.out Q.out true
end Go.Proofs.YtihmgoahobbdkaaGreatDoor
