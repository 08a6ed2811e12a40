/-
  WHAT A CALL LEAVES ALONE ('Only'), and blocks that are two.
-/
import Derived.Test.YtihmgoahobbdkaaGreatDoorAppend
import Derived.Lib.OwnKind
import Derived.Lib.SliceRun
namespace Go.Proofs.YtihmgoahobbdkaaGreatDoor
open Go.RowKit Go.Lib

/-- All blocks that were there, but those of P, are as they were. -/
structure Only (P : Nat → Prop) (w w' : World) : Prop where
  os : w'.os = w.os
  tape : w'.tape = w.tape
  output : w'.output = w.output
  size : w.heap.size ≤ w'.heap.size
  block : ∀ k, k < w.heap.size → ¬ P k → w'.heap[k]? = w.heap[k]?
namespace Only
variable {P Q : Nat → Prop} {w w1 w2 : World}
theorem refl (P : Nat → Prop) (w : World) : Only P w w := ⟨rfl, rfl, rfl, Nat.le_refl _, fun _ _ _ => rfl⟩
theorem trans (h : Only P w w1) (k : Only Q w1 w2) (hq : ∀ b, b < w.heap.size → Q b → P b) : Only P w w2 :=
  ⟨k.os.trans h.os, k.tape.trans h.tape, k.output.trans h.output, Nat.le_trans h.size k.size, fun i hi hne => (k.block i (Nat.lt_of_lt_of_le hi h.size) (fun q => hne (hq i hi q))).trans (h.block i hi hne)⟩
theorem mono (h : Only P w w1) (hq : ∀ b, b < w.heap.size → P b → Q b) : Only Q w w1 := ⟨h.os, h.tape, h.output, h.size, fun k hk hn => h.block k hk (fun q => hn (hq k hk q))⟩
theorem of_below (h : Below w.heap.size w w1) : Only P w w1 := ⟨h.os, h.tape, h.output, h.size, fun k hk _ => h.block k hk⟩
theorem below (h : Only P w w1) {B : Nat} (hB : B ≤ w.heap.size) (hP : ∀ b, P b → B ≤ b) : Below B w w1 := ⟨h.os, h.tape, h.output, h.size, fun k hk => h.block k (by omega) (fun q => by have := hP k q; omega)⟩
theorem alloc (h : Only P w w1) (o : Obj) : Only P w (w1.alloc o) :=
  ⟨h.os, h.tape, h.output, by simp; exact Nat.le_succ_of_le h.size, fun k hk hne => (Below.heap_alloc w1 o k (Nat.lt_of_lt_of_le hk h.size)).trans (h.block k hk hne)⟩
theorem drew (h : Only P w w1) : Only P w w1.drew := ⟨h.os, h.tape, h.output, h.size, h.block⟩
theorem drewN (h : Only P w w1) (n : Nat) : Only P w (w1.drewN n) := ⟨h.os, h.tape, h.output, h.size, h.block⟩
theorem setCell (h : Only P w w1) {a : Addr} (ha : a.block < w.heap.size → P a.block) (v : Value) : Only P w (w1.setCell a v) :=
  ⟨h.os, h.tape, h.output, by simp; exact h.size, fun k hk hne => (Below.heap_setCell w1 _ v k (fun e => by subst e; exact hne (ha hk))).trans (h.block k hk hne)⟩
theorem grown (h : Only P w w1) {row : Option Nat} (hg : w1.grownBy w2 row) (hr : ∀ b, b < w.heap.size → row = some b → P b) : Only P w w2 :=
  ⟨hg.os.trans h.os, hg.tape.trans h.tape, hg.output.trans h.output, Nat.le_trans h.size hg.size, fun k hk hne => (hg.block k (Nat.lt_of_lt_of_le hk h.size) (fun e => hne (hr k hk e.symm))).trans (h.block k hk hne)⟩
theorem heap (h : Only P w w1) {k : Nat} {o : Obj} (hk : w.heap[k]? = some o) (hne : ¬ P k) : w1.heap[k]? = some o := (h.block k (heap_lt hk) hne).trans hk
theorem cell (h : Only P w w1) {a : Addr} {v : Value} (hc : w.cell? a = some v) (hne : ¬ P a.block) : w1.cell? a = some v :=
  (World.cell?_of_block (h.block a.block (World.block_lt_of_cell? w a hc) hne)).trans hc
theorem owns (h : Only P w w1) {base e size n : Nat} {v : Value} {xs : List Value} (ho : w.ownsRow base e size v n xs) (hne : ∀ g, v.ownBlock = some g → ¬ P g) : w1.ownsRow base e size v n xs := by
  refine ⟨ho.1, ?_⟩
  rcases ho.2 with hn | ⟨g, cap, cur, rfl, hbg, hg, rest⟩
  · exact .inl hn
  · exact .inr ⟨g, cap, cur, rfl, hbg, h.heap hg (hne g rfl), rest⟩
end Only
theorem below_drewN {B : Nat} {w w1 : World} (h : Below B w w1) (n : Nat) : Below B w (w1.drewN n) := ⟨h.os, h.tape, h.output, h.size, h.block⟩
theorem cell_past {w : World} {a : Addr} {v : Value} (h : w.cell? a = some v) (o : Obj) : (w.alloc o).cell? a = some v :=
  (World.cell?_of_block (Below.heap_alloc w o a.block (World.block_lt_of_cell? w a h))).trans h
theorem block_new (w : World) (cs : Array Value) (T : TypeId) : (w.alloc (.cells cs T)).heap[w.heap.size]? = some (.cells cs T (0, 0)) := heap_alloc_new w _
theorem cells_two_new (w : World) (a b : Value) (T : TypeId) : ∀ (j : Nat) (u : Value), [a, b][j]? = some u → (w.alloc (.cells #[a, b] T)).cell? ((⟨w.heap.size, 0, none⟩ : Addr).add j) = some u := by
  intro j u hu
  rw [Addr.add_lit]
  refine cell_of_heap (block_new w #[a, b] T) ?_
  rw [Nat.zero_add]
  simpa using hu
theorem two_one {a b : Value} (ha : a.oneCell' = true) (hb : b.oneCell' = true) : ∀ u ∈ [a, b], u.oneCell' = true := by
  intro u hu
  simp only [List.mem_cons, List.not_mem_nil, or_false] at hu
  rcases hu with rfl | rfl
  · exact ha
  · exact hb
/-- Two blocks of other types are two. -/
theorem kind_ne {w : World} {a b : Nat} {cs ds : Array Value} {T U : Nat} {y z : Nat × Nat} (h : w.heap[a]? = some (.cells cs T y)) (k : w.heap[b]? = some (.cells ds U z)) (hne : T ≠ U) : a ≠ b := by
  intro e
  subst e
  rw [h] at k
  injection k with k
  injection k with _ k
  exact hne k
theorem row_ne {w : World} {a base e size n : Nat} {cs : Array Value} {T : Nat} {y : Nat × Nat} {v : Value} {xs : List Value} (h : w.heap[a]? = some (.cells cs T y)) (ho : w.ownsRow base e size v n xs) (hne : e ≠ T) : v.ownBlock ≠ some a := by
  intro e'
  obtain ⟨c, fz, q⟩ := ownsRow_kind ho a e'
  exact kind_ne q h hne rfl
theorem rows_ne {w : World} {base e size n base' e' size' n' : Nat} {v v' : Value} {xs xs' : List Value} (ho : w.ownsRow base e size v n xs) (ho' : w.ownsRow base' e' size' v' n' xs') (hne : e ≠ e') : ∀ g, v.ownBlock = some g → v'.ownBlock ≠ some g := by
  intro g hg
  obtain ⟨c, fz, q⟩ := ownsRow_kind ho g hg
  exact row_ne q ho' (fun e => hne e.symm)
theorem owns_slice_len {w : World} {base e size n : Nat} {v : Value} {xs : List Value} (h : w.ownsRow base e size v n xs) : ∃ ao cp, v = .slice ao n cp := by
  rcases h.2 with ⟨rfl, rfl⟩ | ⟨g, cap, cur, rfl, -⟩
  · exact ⟨_, _, rfl⟩
  · exact ⟨_, _, rfl⟩

end Go.Proofs.YtihmgoahobbdkaaGreatDoor
