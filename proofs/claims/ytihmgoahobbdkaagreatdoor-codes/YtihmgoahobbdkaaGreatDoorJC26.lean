/-
  THE READER OF BYTES IN MEMORY: its state, and what its methods leave alone.
-/
import Derived.Test.YtihmgoahobbdkaaGreatDoorJC3
import Derived.Test.YtihmgoahobbdkaaGreatDoorJC25
namespace Go.Proofs.YtihmgoahobbdkaaGreatDoor
open Go.RowKit Go.Lib

/-- Bytes behind a slice, in blocks below a number. -/
def RestAt (R : Nat) (w : World) (v : Value) (l : List UInt8) : Prop := ∃ ao cp, v = .slice ao l.length cp ∧ l.length ≤ cp ∧ ∀ (j : Nat) (b : UInt8), l[j]? = some b → ∃ C off, C < R ∧ ao = some ⟨C, off, none⟩ ∧ w.cell? ⟨C, off + j, none⟩ = some (.int .u8 b.toNat)
/-- Bytes behind a slice. -/
def BytesIn (w : World) (v : Value) (l : List UInt8) : Prop := ∃ ao cp, v = .slice ao l.length cp ∧ ∀ (j : Nat) (b : UInt8), l[j]? = some b → ∃ C off, ao = some ⟨C, off, none⟩ ∧ w.cell? ⟨C, off + j, none⟩ = some (.int .u8 b.toNat)
def askCells (l : List (Nat × ByteArray)) : List Value := l.flatMap fun x => [.int .i64 (x.1 : Int), .string x.2]
def spanCells (l : List (ByteArray × Int)) : List Value := l.flatMap fun x => [.string x.1, .int .i64 x.2]
theorem spanCells_append (a b : List (ByteArray × Int)) : spanCells (a ++ b) = spanCells a ++ spanCells b := by simp [spanCells]
theorem askCells_append (a b : List (Nat × ByteArray)) : askCells (a ++ b) = askCells a ++ askCells b := by simp [askCells]
/-- The tables that the reader wants. -/
structure TabsR (w : World) : Prop where
  tabs : Tabs w
  pow : TabIs Tryz.prog w "internal/strconv.uint64pow10" .u64 pow10Tab
theorem Tryz.gPow : Tryz.prog.globalNamed "internal/strconv.uint64pow10" = some 15 := by kernel_rfl
theorem TabsR.below {w w' : World} (h : TabsR w) (hb : Below w.heap.size w w') : TabsR w' := ⟨h.tabs.below hb, TabIs_below Tryz.gPow h.pow hb⟩
/-- The reader's state. -/
structure RSt (R : Nat) (w : World) (r : RS) : Prop where
  blk : ∃ rv mv sv av, w.heap[R]? = some (.cells #[rv, .int .i64 r.parts, .bool r.wrong, mv, sv, av] 189 (0, 0)) ∧ RestAt R w rv r.rest ∧ w.ownsRow (R + 1) 9 1 mv r.mets.length (r.mets.map Value.string) ∧ w.ownsRow (R + 1) 191 2 av r.asks.length (askCells r.asks) ∧ w.ownsRow (R + 1) 303 2 sv r.spans.length (spanCells r.spans)
  tab : ∃ W0, TabsR W0 ∧ W0.heap.size ≤ R ∧ Below W0.heap.size W0 w
/-- The block of the row that lies in a field. -/
def rowAt (w : World) (R k : Nat) : Option Nat :=
  match w.heap[R]? with
  | some (.cells cs _ _) => (match (cs[k]? : Option Value) with | some v => v.ownBlock | none => none)
  | _ => none
theorem rowAt_of {w : World} {R k : Nat} {cs : Array Value} {t : TypeId} {z : Nat × Nat} {v : Value} (h : w.heap[R]? = some (.cells cs t z)) (hv : cs[k]? = some v) : rowAt w R k = v.ownBlock := by
  unfold rowAt
  rw [h]
  simp only [hv]
theorem rowAt_same {w w' : World} {R k : Nat} (h : w'.heap[R]? = w.heap[R]?) : rowAt w' R k = rowAt w R k := by unfold rowAt; rw [h]
/-- What the reader's methods leave alone: all but its block and its three rows. -/
structure KR (R : Nat) (w w' : World) : Prop where
  os : w'.os = w.os
  tape : w'.tape = w.tape
  output : w'.output = w.output
  size : w.heap.size ≤ w'.heap.size
  block : ∀ k, k < w.heap.size → k ≠ R → rowAt w R 3 ≠ some k → rowAt w R 4 ≠ some k → rowAt w R 5 ≠ some k → w'.heap[k]? = w.heap[k]?
  row3 : rowAt w' R 3 = rowAt w R 3 ∨ ∀ g, rowAt w' R 3 = some g → w.heap.size ≤ g
  row4 : rowAt w' R 4 = rowAt w R 4 ∨ ∀ g, rowAt w' R 4 = some g → w.heap.size ≤ g
  row5 : rowAt w' R 5 = rowAt w R 5 ∨ ∀ g, rowAt w' R 5 = some g → w.heap.size ≤ g
namespace KR
variable {R : Nat} {w w1 w2 : World}
theorem refl (R : Nat) (w : World) : KR R w w := ⟨rfl, rfl, rfl, Nat.le_refl _, fun _ _ _ _ _ _ => rfl, .inl rfl, .inl rfl, .inl rfl⟩
theorem rowne {k i : Nat} (hk : k < w.heap.size) (h : rowAt w1 R i = rowAt w R i ∨ ∀ g, rowAt w1 R i = some g → w.heap.size ≤ g) (hne : rowAt w R i ≠ some k) : rowAt w1 R i ≠ some k := by
  rcases h with h | h
  · rw [h]; exact hne
  · intro e; have := h k e; omega
theorem rowtrans {i : Nat} (hs : w.heap.size ≤ w1.heap.size) (h : rowAt w1 R i = rowAt w R i ∨ ∀ g, rowAt w1 R i = some g → w.heap.size ≤ g) (k : rowAt w2 R i = rowAt w1 R i ∨ ∀ g, rowAt w2 R i = some g → w1.heap.size ≤ g) : rowAt w2 R i = rowAt w R i ∨ ∀ g, rowAt w2 R i = some g → w.heap.size ≤ g := by
  rcases k with k | k
  · rw [k]; exact h
  · exact .inr fun g hg => Nat.le_trans hs (k g hg)
theorem trans (h : KR R w w1) (k : KR R w1 w2) : KR R w w2 :=
  ⟨k.os.trans h.os, k.tape.trans h.tape, k.output.trans h.output, Nat.le_trans h.size k.size,
    fun b hb hR h3 h4 h5 => (k.block b (Nat.lt_of_lt_of_le hb h.size) hR (rowne hb h.row3 h3) (rowne hb h.row4 h4) (rowne hb h.row5 h5)).trans (h.block b hb hR h3 h4 h5),
    rowtrans h.size h.row3 k.row3, rowtrans h.size h.row4 k.row4, rowtrans h.size h.row5 k.row5⟩
theorem of_below (h : Below w.heap.size w w1) (hR : R < w.heap.size) : KR R w w1 :=
  ⟨h.os, h.tape, h.output, h.size, fun k hk _ _ _ _ => h.block k hk, .inl (rowAt_same (h.block R hR)), .inl (rowAt_same (h.block R hR)), .inl (rowAt_same (h.block R hR))⟩
/-- A field that is no row is written. -/
theorem setR {cs : Array Value} {t : TypeId} {i : Nat} (v : Value) (h : w.heap[R]? = some (.cells cs t (0, 0))) (h3 : i ≠ 3) (h4 : i ≠ 4) (h5 : i ≠ 5) : KR R w (w.setCell ⟨R, i, none⟩ v) := by
  have e := heap_set_same (i := i) (v := v) h
  have hr : ∀ k, i ≠ k → rowAt (w.setCell ⟨R, i, none⟩ v) R k = rowAt w R k := fun k hk => by
    unfold rowAt
    rw [e, h]
    simp only
    rw [Array.getElem?_setIfInBounds_ne hk]
  exact ⟨rfl, rfl, rfl, by simp, fun k _ hR _ _ _ => Below.heap_setCell _ _ _ _ hR, .inl (hr 3 h3), .inl (hr 4 h4), .inl (hr 5 h5)⟩
theorem below (h : KR R w w1) {B : Nat} (hB : B ≤ R) (hw : R < w.heap.size) (h3 : ∀ g, rowAt w R 3 = some g → R < g) (h4 : ∀ g, rowAt w R 4 = some g → R < g) (h5 : ∀ g, rowAt w R 5 = some g → R < g) : Below B w w1 :=
  ⟨h.os, h.tape, h.output, h.size, fun k hk => h.block k (by omega) (by omega) (fun e => by have := h3 k e; omega) (fun e => by have := h4 k e; omega) (fun e => by have := h5 k e; omega)⟩
end KR
section
variable {R : Nat} {w w' : World} {r r' : RS}
theorem RestAt.below {v : Value} {l : List UInt8} (h : RestAt R w v l) (hb : Below R w w') : RestAt R w' v l := by
  obtain ⟨ao, cp, h1, h2, h3⟩ := h
  refine ⟨ao, cp, h1, h2, fun j b hj => ?_⟩
  obtain ⟨C, off, hC, h4, h5⟩ := h3 j b hj
  exact ⟨C, off, hC, h4, (World.cell?_of_block (hb.block C hC)).trans h5⟩
theorem RSt.lR (h : RSt R w r) : R < w.heap.size := by obtain ⟨a, b, c, d, h, -⟩ := h.blk; exact heap_lt h
theorem RSt.rows (h : RSt R w r) : (∀ g, rowAt w R 3 = some g → R < g) ∧ (∀ g, rowAt w R 4 = some g → R < g) ∧ (∀ g, rowAt w R 5 = some g → R < g) := by
  obtain ⟨rv, mv, sv, av, h1, -, h3, h4, h5⟩ := h.blk
  refine ⟨?_, ?_, ?_⟩
  · intro g hg
    rw [rowAt_of h1 (k := 3) rfl] at hg
    exact (h3.lt _ hg).1
  · intro g hg
    rw [rowAt_of h1 (k := 4) rfl] at hg
    exact (h5.lt _ hg).1
  · intro g hg
    rw [rowAt_of h1 (k := 5) rfl] at hg
    exact (h4.lt _ hg).1
theorem RSt.below_of (h : RSt R w r) (hk : KR R w w') : Below R w w' := hk.below (Nat.le_refl _) h.lR h.rows.1 h.rows.2.1 h.rows.2.2
theorem RSt.tab_of (h : RSt R w r) (hb : Below R w w') : ∃ W0, TabsR W0 ∧ W0.heap.size ≤ R ∧ Below W0.heap.size W0 w' := by
  obtain ⟨W0, h1, h2, h3⟩ := h.tab
  exact ⟨W0, h1, h2, h3.trans (hb.mono h2)⟩
theorem RSt.tabs (h : RSt R w r) : TabsR w := by obtain ⟨W0, h1, -, h3⟩ := h.tab; exact h1.below h3
/-- Another state with another block for the reader; all else as it was. -/
theorem RSt.change (h : RSt R w r) {rv mv sv av : Value} (hR : w'.heap[R]? = some (.cells #[rv, .int .i64 r'.parts, .bool r'.wrong, mv, sv, av] 189 (0, 0))) (hrest : RestAt R w rv r'.rest)
    (hm : w.ownsRow (R + 1) 9 1 mv r'.mets.length (r'.mets.map Value.string)) (ha : w.ownsRow (R + 1) 191 2 av r'.asks.length (askCells r'.asks) ∧ w.ownsRow (R + 1) 303 2 sv r'.spans.length (spanCells r'.spans))
    (hos : w'.os = w.os) (htp : w'.tape = w.tape) (hou : w'.output = w.output) (hsz : w.heap.size ≤ w'.heap.size) (hk : ∀ k, k < w.heap.size → k ≠ R → w'.heap[k]? = w.heap[k]?) : RSt R w' r' := by
  have lR := h.lR
  have hb : Below R w w' := ⟨hos, htp, hou, hsz, fun k hk' => hk k (by omega) (by omega)⟩
  refine ⟨⟨rv, mv, sv, av, hR, hrest.below hb, owns_of_block hm fun g hg => hk g (hm.lt _ hg).2 (by have := (hm.lt _ hg).1; omega), owns_of_block ha.1 fun g hg => hk g (ha.1.lt _ hg).2 (by have := (ha.1.lt _ hg).1; omega), owns_of_block ha.2 fun g hg => hk g (ha.2.lt _ hg).2 (by have := (ha.2.lt _ hg).1; omega)⟩, h.tab_of hb⟩
theorem RSt.later (h : RSt R w r) (hb : Below w.heap.size w w') : RSt R w' r := by
  have lR := h.lR
  obtain ⟨rv, mv, sv, av, h1, h2, h3, h4⟩ := h.blk
  exact h.change ((hb.block R lR).trans h1) h2 h3 h4 hb.os hb.tape hb.output hb.size (fun k hk _ => hb.block k hk)
/-- A block that is neither the reader's nor one of its rows'. -/
structure Free (R : Nat) (w : World) (b : Nat) : Prop where
  ne : b ≠ R
  lt : b < w.heap.size
  row3 : rowAt w R 3 ≠ some b
  row4 : rowAt w R 4 ≠ some b
  row5 : rowAt w R 5 ≠ some b
theorem RSt.rowlt (h : RSt R w r) : (∀ g, rowAt w R 3 = some g → g < w.heap.size) ∧ (∀ g, rowAt w R 4 = some g → g < w.heap.size) ∧ (∀ g, rowAt w R 5 = some g → g < w.heap.size) := by
  obtain ⟨rv, mv, sv, av, h1, -, h3, h4, h5⟩ := h.blk
  refine ⟨?_, ?_, ?_⟩
  · intro g hg
    rw [rowAt_of h1 (k := 3) rfl] at hg
    exact (h3.lt _ hg).2
  · intro g hg
    rw [rowAt_of h1 (k := 4) rfl] at hg
    exact (h5.lt _ hg).2
  · intro g hg
    rw [rowAt_of h1 (k := 5) rfl] at hg
    exact (h4.lt _ hg).2
/-- A block that is new. -/
theorem RSt.free_new (h : RSt R w r) (hb : Below w.heap.size w w') {b : Nat} (h1 : w.heap.size ≤ b) (h2 : b < w'.heap.size) : Free R w' b := by
  have lR := h.lR
  have e : ∀ i, rowAt w' R i = rowAt w R i := fun i => rowAt_same (hb.block R lR)
  exact ⟨by omega, h2, fun q => by rw [e] at q; have := h.rowlt.1 b q; omega, fun q => by rw [e] at q; have := h.rowlt.2.1 b q; omega, fun q => by rw [e] at q; have := h.rowlt.2.2 b q; omega⟩
theorem Free.step {b : Nat} (f : Free R w b) (k : KR R w w') : Free R w' b ∧ w'.heap[b]? = w.heap[b]? :=
  ⟨⟨f.ne, Nat.lt_of_lt_of_le f.lt k.size, KR.rowne f.lt k.row3 f.row3, KR.rowne f.lt k.row4 f.row4, KR.rowne f.lt k.row5 f.row5⟩, k.block b f.lt f.ne f.row3 f.row4 f.row5⟩
theorem Free.heap {b : Nat} {o : Obj} (f : Free R w b) (k : KR R w w') (h : w.heap[b]? = some o) : w'.heap[b]? = some o := (f.step k).2.trans h
/-- A free block is written. -/
theorem RSt.setFree (h : RSt R w r) {b i : Nat} (f : b ≠ R) (hlo : R < b) (h3 : rowAt w R 3 ≠ some b) (h4 : rowAt w R 4 ≠ some b) (h5 : rowAt w R 5 ≠ some b) (v : Value) : RSt R (w.setCell ⟨b, i, none⟩ v) r := by
  obtain ⟨rv, mv, sv, av, h1, h2, h7, h8, h9⟩ := h.blk
  have hk : ∀ k, k ≠ b → (w.setCell ⟨b, i, none⟩ v).heap[k]? = w.heap[k]? := fun k hk => Below.heap_setCell _ _ _ _ hk
  have hb : Below R w (w.setCell ⟨b, i, none⟩ v) := ⟨rfl, rfl, rfl, by simp, fun k hk' => hk k (by omega)⟩
  refine ⟨⟨rv, mv, sv, av, (hk R (fun e => f e.symm)).trans h1, h2.below hb, owns_of_block h7 fun g hg => hk g fun e => ?_, owns_of_block h8 fun g hg => hk g fun e => ?_, owns_of_block h9 fun g hg => hk g fun e => ?_⟩, h.tab_of hb⟩
  · subst e; rw [rowAt_of h1 (k := 3) rfl] at h3; exact h3 hg
  · subst e; rw [rowAt_of h1 (k := 5) rfl] at h5; exact h5 hg
  · subst e; rw [rowAt_of h1 (k := 4) rfl] at h4; exact h4 hg
theorem KR.setNew {w0 : World} (h : KR R w0 w) {b i : Nat} (hb : w0.heap.size ≤ b) (hR : R ≠ b) (v : Value) : KR R w0 (w.setCell ⟨b, i, none⟩ v) := by
  have hk : ∀ k, k ≠ b → (w.setCell ⟨b, i, none⟩ v).heap[k]? = w.heap[k]? := fun k hk => Below.heap_setCell _ _ _ _ hk
  have e : ∀ j, rowAt (w.setCell ⟨b, i, none⟩ v) R j = rowAt w R j := fun j => rowAt_same (hk R hR)
  exact ⟨h.os, h.tape, h.output, by simpa using h.size, fun k hk' hR' h3 h4 h5 => (hk k (by omega)).trans (h.block k hk' hR' h3 h4 h5), by rw [e]; exact h.row3, by rw [e]; exact h.row4, by rw [e]; exact h.row5⟩
theorem KR.allocR {w0 : World} (h : KR R w0 w) (hR : R < w.heap.size) (o : Obj) : KR R w0 (w.alloc o) := h.trans (.of_below ((Below.refl _ _).alloc (Nat.le_refl _) o) hR)
end
end Go.Proofs.YtihmgoahobbdkaaGreatDoor
