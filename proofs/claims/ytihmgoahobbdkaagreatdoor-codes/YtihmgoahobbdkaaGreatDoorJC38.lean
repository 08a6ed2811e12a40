/-
  THE READER OF BYTES: its lists grow.
-/
import Derived.Test.YtihmgoahobbdkaaGreatDoorJC35
import Derived.Test.YtihmgoahobbdkaaGreatDoorJC19
namespace Go.Proofs.YtihmgoahobbdkaaGreatDoor
open Go.RowKit Go.Lib

theorem owns_kind2 {w : World} {base e size n : Nat} {v : Value} {xs : List Value} (h : w.ownsRow base e size v n xs) {g : Nat} (hg : v.ownBlock = some g) : ∃ c, w.heap[g]? = some (.cells c e (0, 0)) := by
  rcases h.2 with ⟨rfl, -⟩ | ⟨g2, cap, cur, rfl, -, h3, -⟩
  · cases hg
  · injection hg with hg
    subst hg
    exact ⟨cur, h3⟩
theorem owns_block2 {w w' : World} {base e size n : Nat} {v : Value} {xs : List Value} (h : w.ownsRow base e size v n xs) (hb : ∀ g, v.ownBlock = some g → w'.heap[g]? = w.heap[g]?) : w'.ownsRow base e size v n xs := owns_of_block h hb
theorem owns_apart {w : World} {b1 e1 s1 n1 b2 e2 s2 n2 : Nat} {v1 v2 : Value} {x1 x2 : List Value} (h1 : w.ownsRow b1 e1 s1 v1 n1 x1) (h2 : w.ownsRow b2 e2 s2 v2 n2 x2) (he : e1 ≠ e2) {g : Nat} (hg : v1.ownBlock = some g) : v2.ownBlock ≠ some g := fun hg2 => by
  obtain ⟨c1, q1⟩ := owns_kind2 h1 hg
  obtain ⟨c2, q2⟩ := owns_kind2 h2 hg2
  rw [q1] at q2
  injection q2 with q2
  injection q2 with _ q2
  exact he q2
section
variable {R : Nat} {w w5 : World} {r r' : RS}
theorem RSt.renew (h : RSt R w r) {rv mv sv av mv' sv' av' X v' : Value} {i : Nat} {o : Obj} (h1 : w.heap[R]? = some (.cells #[rv, .int .i64 r.parts, .bool r.wrong, mv, sv, av] 189 (0, 0))) (hX : X = mv ∨ X = sv ∨ X = av)
    (hg : (w.alloc o).grownBy w5 X.ownBlock) (h5 : (w5.setCell ⟨R, i, none⟩ v').heap[R]? = some (.cells #[rv, .int .i64 r'.parts, .bool r'.wrong, mv', sv', av'] 189 (0, 0)))
    (hrest : RestAt R w rv r'.rest) (hm : w5.ownsRow (R + 1) 9 1 mv' r'.mets.length (r'.mets.map Value.string)) (ha : w5.ownsRow (R + 1) 191 2 av' r'.asks.length (askCells r'.asks) ∧ w5.ownsRow (R + 1) 303 2 sv' r'.spans.length (spanCells r'.spans))
    (hm' : mv'.ownBlock = mv.ownBlock ∨ ∀ g, mv'.ownBlock = some g → w.heap.size ≤ g) (hs' : sv'.ownBlock = sv.ownBlock ∨ ∀ g, sv'.ownBlock = some g → w.heap.size ≤ g) (ha' : av'.ownBlock = av.ownBlock ∨ ∀ g, av'.ownBlock = some g → w.heap.size ≤ g) : RSt R (w5.setCell ⟨R, i, none⟩ v') r' ∧ KR R w (w5.setCell ⟨R, i, none⟩ v') := by
  have lR := heap_lt h1
  have r3 := rowAt_of h1 (k := 3) rfl
  have r4 := rowAt_of h1 (k := 4) rfl
  have r5 := rowAt_of h1 (k := 5) rfl
  have hk : KR R w (w5.setCell ⟨R, i, none⟩ v') := by
    refine ⟨hg.os, hg.tape, hg.output, by have := hg.size; simp at this ⊢; omega, fun k hk hR h3 h4 h5' => ?_, ?_, ?_, ?_⟩
    · rw [Below.heap_setCell _ _ _ _ hR]
      refine (hg.block k (by simp; omega) fun e => ?_).trans (Below.heap_alloc _ _ _ hk)
      rcases hX with rfl | rfl | rfl
      · rw [r3] at h3; exact h3 e.symm
      · rw [r4] at h4; exact h4 e.symm
      · rw [r5] at h5'; exact h5' e.symm
    · rw [rowAt_of h5 (k := 3) rfl, r3]; exact hm'
    · rw [rowAt_of h5 (k := 4) rfl, r4]; exact hs'
    · rw [rowAt_of h5 (k := 5) rfl, r5]; exact ha'
  have hb := h.below_of hk
  refine ⟨⟨⟨rv, mv', sv', av', h5, hrest.below hb, owns_block2 hm fun g hg' => Below.heap_setCell _ _ _ _ (by have := (hm.lt _ hg').1; show g ≠ R; omega), owns_block2 ha.1 fun g hg' => Below.heap_setCell _ _ _ _ (by have := (ha.1.lt _ hg').1; show g ≠ R; omega), owns_block2 ha.2 fun g hg' => Below.heap_setCell _ _ _ _ (by have := (ha.2.lt _ hg').1; show g ≠ R; omega)⟩, h.tab_of hb⟩, hk⟩
/-- A metric more. -/
theorem RSt.push3 (h : RSt R w r) {rv mv sv av v' : Value} {o : Obj} {x : ByteArray} (h1 : w.heap[R]? = some (.cells #[rv, .int .i64 r.parts, .bool r.wrong, mv, sv, av] 189 (0, 0))) (hrest : RestAt R w rv r.rest)
    (hm : w.ownsRow (R + 1) 9 1 mv r.mets.length (r.mets.map Value.string)) (ha : w.ownsRow (R + 1) 191 2 av r.asks.length (askCells r.asks) ∧ w.ownsRow (R + 1) 303 2 sv r.spans.length (spanCells r.spans))
    (hown : w5.ownsRow (R + 1) 9 1 v' (r.mets.length + 1) (r.mets.map Value.string ++ [.string x])) (hg : (w.alloc o).grownBy w5 mv.ownBlock) (hb : v'.ownBlock = mv.ownBlock ∨ v'.ownBlock = some (w.alloc o).heap.size) :
    RSt R (w5.setCell ⟨R, 3, none⟩ v') { r with mets := r.mets ++ [x] } ∧ KR R w (w5.setCell ⟨R, 3, none⟩ v') := by
  have lR := heap_lt h1
  have hR5 : w5.heap[R]? = some (.cells #[rv, .int .i64 r.parts, .bool r.wrong, mv, sv, av] 189 (0, 0)) := (hg.block R (by simp; omega) (fun e => by have := (hm.lt _ e.symm).1; omega)).trans (heap_alloc_old h1)
  refine h.renew h1 (.inl rfl) hg (heap_set_same (i := 3) hR5) hrest (by simpa using hown) ⟨?_, ?_⟩ ?_ (.inl rfl) (.inl rfl)
  · exact owns_block2 ha.1 fun g hg' => (hg.block g (by have := (ha.1.lt _ hg').2; simp; omega) fun e => owns_apart ha.1 hm (by decide) hg' e.symm).trans (Below.heap_alloc _ _ _ (ha.1.lt _ hg').2)
  · exact owns_block2 ha.2 fun g hg' => (hg.block g (by have := (ha.2.lt _ hg').2; simp; omega) fun e => owns_apart ha.2 hm (by decide) hg' e.symm).trans (Below.heap_alloc _ _ _ (ha.2.lt _ hg').2)
  · rcases hb with hb | hb
    · exact .inl hb
    · exact .inr fun g hg' => by rw [hb] at hg'; injection hg' with hg'; simp at hg'; omega
/-- A span more. -/
theorem RSt.push4 (h : RSt R w r) {rv mv sv av v' : Value} {o : Obj} {p : Int} {x : ByteArray} (h1 : w.heap[R]? = some (.cells #[rv, .int .i64 r.parts, .bool r.wrong, mv, sv, av] 189 (0, 0))) (hrest : RestAt R w rv r.rest)
    (hm : w.ownsRow (R + 1) 9 1 mv r.mets.length (r.mets.map Value.string)) (ha : w.ownsRow (R + 1) 191 2 av r.asks.length (askCells r.asks) ∧ w.ownsRow (R + 1) 303 2 sv r.spans.length (spanCells r.spans))
    (hown : w5.ownsRow (R + 1) 303 2 v' (r.spans.length + 1) (spanCells r.spans ++ [.string x, .int .i64 p])) (hg : (w.alloc o).grownBy w5 sv.ownBlock) (hb : v'.ownBlock = sv.ownBlock ∨ ∀ g, v'.ownBlock = some g → w.heap.size ≤ g) :
    RSt R (w5.setCell ⟨R, 4, none⟩ v') { r with spans := r.spans ++ [(x, p)] } ∧ KR R w (w5.setCell ⟨R, 4, none⟩ v') := by
  have lR := heap_lt h1
  have hR5 : w5.heap[R]? = some (.cells #[rv, .int .i64 r.parts, .bool r.wrong, mv, sv, av] 189 (0, 0)) := (hg.block R (by simp; omega) (fun e => by have := (ha.2.lt _ e.symm).1; omega)).trans (heap_alloc_old h1)
  refine h.renew h1 (.inr (.inl rfl)) hg (heap_set_same (i := 4) hR5) hrest ?_ ⟨?_, ?_⟩ (.inl rfl) hb (.inl rfl)
  · exact owns_block2 hm fun g hg' => (hg.block g (by have := (hm.lt _ hg').2; simp; omega) fun e => owns_apart hm ha.2 (by decide) hg' e.symm).trans (Below.heap_alloc _ _ _ (hm.lt _ hg').2)
  · exact owns_block2 ha.1 fun g hg' => (hg.block g (by have := (ha.1.lt _ hg').2; simp; omega) fun e => owns_apart ha.1 ha.2 (by decide) hg' e.symm).trans (Below.heap_alloc _ _ _ (ha.1.lt _ hg').2)
  · rw [spanCells_append, List.length_append]
    exact hown
/-- A probe more. -/
theorem RSt.push5 (h : RSt R w r) {rv mv sv av v' : Value} {o : Obj} {p : Nat} {x : ByteArray} (h1 : w.heap[R]? = some (.cells #[rv, .int .i64 r.parts, .bool r.wrong, mv, sv, av] 189 (0, 0))) (hrest : RestAt R w rv r.rest)
    (hm : w.ownsRow (R + 1) 9 1 mv r.mets.length (r.mets.map Value.string)) (ha : w.ownsRow (R + 1) 191 2 av r.asks.length (askCells r.asks) ∧ w.ownsRow (R + 1) 303 2 sv r.spans.length (spanCells r.spans))
    (hown : w5.ownsRow (R + 1) 191 2 v' (r.asks.length + 1) (askCells r.asks ++ [.int .i64 (p : Int), .string x])) (hg : (w.alloc o).grownBy w5 av.ownBlock) (hb : v'.ownBlock = av.ownBlock ∨ ∀ g, v'.ownBlock = some g → w.heap.size ≤ g) :
    RSt R (w5.setCell ⟨R, 5, none⟩ v') { r with asks := r.asks ++ [(p, x)] } ∧ KR R w (w5.setCell ⟨R, 5, none⟩ v') := by
  have lR := heap_lt h1
  have hR5 : w5.heap[R]? = some (.cells #[rv, .int .i64 r.parts, .bool r.wrong, mv, sv, av] 189 (0, 0)) := (hg.block R (by simp; omega) (fun e => by have := (ha.1.lt _ e.symm).1; omega)).trans (heap_alloc_old h1)
  refine h.renew h1 (.inr (.inr rfl)) hg (heap_set_same (i := 5) hR5) hrest ?_ ⟨?_, ?_⟩ (.inl rfl) (.inl rfl) hb
  · exact owns_block2 hm fun g hg' => (hg.block g (by have := (hm.lt _ hg').2; simp; omega) fun e => owns_apart hm ha.1 (by decide) hg' e.symm).trans (Below.heap_alloc _ _ _ (hm.lt _ hg').2)
  · rw [askCells_append, List.length_append]
    exact hown
  · exact owns_block2 ha.2 fun g hg' => (hg.block g (by have := (ha.2.lt _ hg').2; simp; omega) fun e => owns_apart ha.2 ha.1 (by decide) hg' e.symm).trans (Below.heap_alloc _ _ _ (ha.2.lt _ hg').2)
end
end Go.Proofs.YtihmgoahobbdkaaGreatDoor
