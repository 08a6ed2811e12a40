/-
 THE READER OF BYTES IN MEMORY: its state, and what its methods leave alone.
-/
import Derived.Test.YtbokdbaagacnlaaGreatDoorJK5
import Derived.Test.YtbokdbaagacnlaaGreatDoorJK18
namespace Go.Proofs.YtbokdbaagacnlaaGreatDoor
open Go.RowKit Go.Lib
def RestAt (R : Nat) (w : World) (v : Value) (l : List UInt8) : Prop := ∃ ao cp, v = .slice ao l.length cp ∧ l.length ≤ cp ∧ ∀ (j : Nat) (b : UInt8), l[j]? = some b → ∃ C off, C < R ∧ ao = some ⟨C, off, none⟩ ∧ w.cell? ⟨C, off + j, none⟩ = some (.int .u8 b.toNat)
def BytesIn (w : World) (v : Value) (l : List UInt8) : Prop := ∃ ao cp, v = .slice ao l.length cp ∧ ∀ (j : Nat) (b : UInt8), l[j]? = some b → ∃ C off, ao = some ⟨C, off, none⟩ ∧ w.cell? ⟨C, off + j, none⟩ = some (.int .u8 b.toNat)
def askCells (l : List (Nat × ByteArray)) : List Value := l.flatMap fun x => [.int .i64 (x.1 : Int), .string x.2]
def spanCells (l : List (ByteArray × Int)) : List Value := l.flatMap fun x => [.string x.1, .int .i64 x.2]
theorem spanCells_append (a b : List (ByteArray × Int)) : spanCells (a ++ b) = spanCells a ++ spanCells b := by simp [spanCells]
theorem askCells_append (a b : List (Nat × ByteArray)) : askCells (a ++ b) = askCells a ++ askCells b := by simp [askCells]
structure TabsR (w : World) : Prop where
 tabs : Tabs w
 pow : TabIs Tryz.prog w "internal/strconv.uint64pow10" .u64 pow10Tab
theorem Tryz.gPow : Tryz.prog.globalNamed "internal/strconv.uint64pow10" = some 15 := by kernel_rfl
theorem TabsR.below {w w' : World} (h : TabsR w) (hb : Below w.heap.size w w') : TabsR w' := ⟨h.tabs.below hb, TabIs_below Tryz.gPow h.pow hb⟩
structure RSt (R : Nat) (w : World) (r : RS) : Prop where
 blk : ∃ rv mv sv av, w.heap[R]? = some (.cells #[rv, .int .i64 r.parts, .bool r.wrong, mv, sv, av] 234 (0, 0)) ∧ RestAt R w rv r.rest ∧ w.ownsRow (R + 1) 9 1 mv r.mets.length (r.mets.map Value.string) ∧ w.ownsRow (R + 1) 236 2 av r.asks.length (askCells r.asks) ∧ w.ownsRow (R + 1) 194 2 sv r.spans.length (spanCells r.spans)
 tab : ∃ W0, TabsR W0 ∧ W0.heap.size ≤ R ∧ Below W0.heap.size W0 w
def rowAt (w : World) (R k : Nat) : Option Nat :=
 match w.heap[R]? with
 | some (.cells cs _ _) => (match (cs[k]? : Option Value) with | some v => v.ownBlock | none => none)
 | _ => none
theorem rowAt_of {w : World} {R k : Nat} {cs : Array Value} {t : TypeId} {z : Nat × Nat} {v : Value} (h : w.heap[R]? = some (.cells cs t z)) (hv : cs[k]? = some v) : rowAt w R k = v.ownBlock := by
 unfold rowAt
 rw [h]
 simp only [hv]
theorem rowAt_same {w w' : World} {R k : Nat} (h : w'.heap[R]? = w.heap[R]?) : rowAt w' R k = rowAt w R k := by unfold rowAt; rw [h]
structure KR (R : Nat) (w w' : World) : Prop where
 os : w'.os = w.os
 tape : w'.tape = w.tape
 output : w'.output = w.output
 size : w.heap.size ≤ w'.heap.size
 block : ∀ k, k < w.heap.size → k ≠ R → rowAt w R 3 ≠ some k → rowAt w R 4 ≠ some k → rowAt w R 5 ≠ some k → w'.heap[k]? = w.heap[k]?
 row3 : rowAt w' R 3 = rowAt w R 3 ∨ ∀ g, rowAt w' R 3 = some g → w.heap.size ≤ g
 row4 : rowAt w' R 4 = rowAt w R 4 ∨ ∀ g, rowAt w' R 4 = some g → w.heap.size ≤ g
 row5 : rowAt w' R 5 = rowAt w R 5 ∨ ∀ g, rowAt w' R 5 = some g → w.heap.size ≤ g
namespace KR
variable {R : Nat} {w w1 w2 : World}
theorem rowne {k i : Nat} (hk : k < w.heap.size) (h : rowAt w1 R i = rowAt w R i ∨ ∀ g, rowAt w1 R i = some g → w.heap.size ≤ g) (hne : rowAt w R i ≠ some k) : rowAt w1 R i ≠ some k := by
 rcases h with h | h
 ·rw [h]; exact hne
 ·intro e; have := h k e; omega
theorem rowtrans {i : Nat} (hs : w.heap.size ≤ w1.heap.size) (h : rowAt w1 R i = rowAt w R i ∨ ∀ g, rowAt w1 R i = some g → w.heap.size ≤ g) (k : rowAt w2 R i = rowAt w1 R i ∨ ∀ g, rowAt w2 R i = some g → w1.heap.size ≤ g) : rowAt w2 R i = rowAt w R i ∨ ∀ g, rowAt w2 R i = some g → w.heap.size ≤ g := by
 rcases k with k | k
 ·rw [k]; exact h
 ·exact .inr fun g hg => Nat.le_trans hs (k g hg)
theorem trans (h : KR R w w1) (k : KR R w1 w2) : KR R w w2 :=
 ⟨k.os.trans h.os, k.tape.trans h.tape, k.output.trans h.output, Nat.le_trans h.size k.size,
  fun b hb hR h3 h4 h5 => (k.block b (Nat.lt_of_lt_of_le hb h.size) hR (rowne hb h.row3 h3) (rowne hb h.row4 h4) (rowne hb h.row5 h5)).trans (h.block b hb hR h3 h4 h5),
  rowtrans h.size h.row3 k.row3, rowtrans h.size h.row4 k.row4, rowtrans h.size h.row5 k.row5⟩
theorem of_below (h : Below w.heap.size w w1) (hR : R < w.heap.size) : KR R w w1 :=
 ⟨h.os, h.tape, h.output, h.size, fun k hk _ _ _ _ => h.block k hk, .inl (rowAt_same (h.block R hR)), .inl (rowAt_same (h.block R hR)), .inl (rowAt_same (h.block R hR))⟩
theorem setR {cs : Array Value} {t : TypeId} {i : Nat} (v : Value) (h : w.heap[R]? = some (.cells cs t (0, 0))) (h3 : i ≠ 3) (h4 : i ≠ 4) (h5 : i ≠ 5) : KR R w (w.setCell ⟨R, i, none⟩ v) := by
 have e := heap_set_same (i := i) (v := v) h
 have hr : ∀ k, i ≠ k → rowAt (w.setCell ⟨R, i, none⟩ v) R k = rowAt w R k := fun k hk => by
  unfold rowAt
  rw [e, h]
  simp only
  rw [Array.getElem?_setIfInBounds_ne hk]
 exact ⟨rfl, rfl, rfl, by simp, fun k _ hR _ _ _ => Below.heap_setCell _ _ _ _ hR, .inl (hr 3 h3), .inl (hr 4 h4), .inl (hr 5 h5)⟩
theorem below (h : KR R w w1) {B : Nat} (hB : B ≤ R) (hw : R < w.heap.size) (h3 : ∀ g, rowAt w R 3 = some g → R < g) (h4 : ∀ g, rowAt w R 4 = some g → R < g) (h5 : ∀ g, rowAt w R 5 = some g → R < g) : Below B w w1 :=
 ⟨h.os, h.tape, h.output, h.size, fun k hk => h.block k (by omega) (by omega) (fun e => by have := h3 k e; omega) (fun e => by have := h4 k e; omega) (fun e => by have := h5 k e; omega)⟩
end KR
section
variable {R : Nat} {w w' : World} {r r' : RS}
theorem RestAt.below {v : Value} {l : List UInt8} (h : RestAt R w v l) (hb : Below R w w') : RestAt R w' v l := by
 obtain ⟨ao, cp, h1, h2, h3⟩ := h
 refine ⟨ao, cp, h1, h2, fun j b hj => ?_⟩
 obtain ⟨C, off, hC, h4, h5⟩ := h3 j b hj
 exact ⟨C, off, hC, h4, (World.cell?_of_block (hb.block C hC)).trans h5⟩
theorem RSt.lR (h : RSt R w r) : R < w.heap.size := by obtain ⟨a, b, c, d, h, -⟩ := h.blk; exact heap_lt h
theorem RSt.rows (h : RSt R w r) : (∀ g, rowAt w R 3 = some g → R < g) ∧ (∀ g, rowAt w R 4 = some g → R < g) ∧ (∀ g, rowAt w R 5 = some g → R < g) := by
 obtain ⟨rv, mv, sv, av, h1, -, h3, h4, h5⟩ := h.blk
 refine ⟨?_, ?_, ?_⟩
 ·intro g hg
  rw [rowAt_of h1 (k := 3) rfl] at hg
  exact (h3.lt _ hg).1
 ·intro g hg
  rw [rowAt_of h1 (k := 4) rfl] at hg
  exact (h5.lt _ hg).1
 ·intro g hg
  rw [rowAt_of h1 (k := 5) rfl] at hg
  exact (h4.lt _ hg).1
theorem RSt.below_of (h : RSt R w r) (hk : KR R w w') : Below R w w' := hk.below (Nat.le_refl _) h.lR h.rows.1 h.rows.2.1 h.rows.2.2
theorem RSt.tab_of (h : RSt R w r) (hb : Below R w w') : ∃ W0, TabsR W0 ∧ W0.heap.size ≤ R ∧ Below W0.heap.size W0 w' := by
 obtain ⟨W0, h1, h2, h3⟩ := h.tab
 exact ⟨W0, h1, h2, h3.trans (hb.mono h2)⟩
theorem RSt.tabs (h : RSt R w r) : TabsR w := by obtain ⟨W0, h1, -, h3⟩ := h.tab; exact h1.below h3
theorem RSt.change (h : RSt R w r) {rv mv sv av : Value} (hR : w'.heap[R]? = some (.cells #[rv, .int .i64 r'.parts, .bool r'.wrong, mv, sv, av] 234 (0, 0))) (hrest : RestAt R w rv r'.rest)
  (hm : w.ownsRow (R + 1) 9 1 mv r'.mets.length (r'.mets.map Value.string)) (ha : w.ownsRow (R + 1) 236 2 av r'.asks.length (askCells r'.asks) ∧ w.ownsRow (R + 1) 194 2 sv r'.spans.length (spanCells r'.spans))
  (hos : w'.os = w.os) (htp : w'.tape = w.tape) (hou : w'.output = w.output) (hsz : w.heap.size ≤ w'.heap.size) (hk : ∀ k, k < w.heap.size → k ≠ R → w'.heap[k]? = w.heap[k]?) : RSt R w' r' := by
 have lR := h.lR
 have hb : Below R w w' := ⟨hos, htp, hou, hsz, fun k hk' => hk k (by omega) (by omega)⟩
 refine ⟨⟨rv, mv, sv, av, hR, hrest.below hb, owns_of_block hm fun g hg => hk g (hm.lt _ hg).2 (by have := (hm.lt _ hg).1; omega), owns_of_block ha.1 fun g hg => hk g (ha.1.lt _ hg).2 (by have := (ha.1.lt _ hg).1; omega), owns_of_block ha.2 fun g hg => hk g (ha.2.lt _ hg).2 (by have := (ha.2.lt _ hg).1; omega)⟩, h.tab_of hb⟩
theorem RSt.later (h : RSt R w r) (hb : Below w.heap.size w w') : RSt R w' r := by
 have lR := h.lR
 obtain ⟨rv, mv, sv, av, h1, h2, h3, h4⟩ := h.blk
 exact h.change ((hb.block R lR).trans h1) h2 h3 h4 hb.os hb.tape hb.output hb.size (fun k hk _ => hb.block k hk)
structure Free (R : Nat) (w : World) (b : Nat) : Prop where
 ne : b ≠ R
 lt : b < w.heap.size
 row3 : rowAt w R 3 ≠ some b
 row4 : rowAt w R 4 ≠ some b
 row5 : rowAt w R 5 ≠ some b
theorem RSt.rowlt (h : RSt R w r) : (∀ g, rowAt w R 3 = some g → g < w.heap.size) ∧ (∀ g, rowAt w R 4 = some g → g < w.heap.size) ∧ (∀ g, rowAt w R 5 = some g → g < w.heap.size) := by
 obtain ⟨rv, mv, sv, av, h1, -, h3, h4, h5⟩ := h.blk
 refine ⟨?_, ?_, ?_⟩
 ·intro g hg
  rw [rowAt_of h1 (k := 3) rfl] at hg
  exact (h3.lt _ hg).2
 ·intro g hg
  rw [rowAt_of h1 (k := 4) rfl] at hg
  exact (h5.lt _ hg).2
 ·intro g hg
  rw [rowAt_of h1 (k := 5) rfl] at hg
  exact (h4.lt _ hg).2
theorem RSt.free_new (h : RSt R w r) (hb : Below w.heap.size w w') {b : Nat} (h1 : w.heap.size ≤ b) (h2 : b < w'.heap.size) : Free R w' b := by
 have lR := h.lR
 have e : ∀ i, rowAt w' R i = rowAt w R i := fun i => rowAt_same (hb.block R lR)
 exact ⟨by omega, h2, fun q => by rw [e] at q; have := h.rowlt.1 b q; omega, fun q => by rw [e] at q; have := h.rowlt.2.1 b q; omega, fun q => by rw [e] at q; have := h.rowlt.2.2 b q; omega⟩
theorem Free.step {b : Nat} (f : Free R w b) (k : KR R w w') : Free R w' b ∧ w'.heap[b]? = w.heap[b]? :=
 ⟨⟨f.ne, Nat.lt_of_lt_of_le f.lt k.size, KR.rowne f.lt k.row3 f.row3, KR.rowne f.lt k.row4 f.row4, KR.rowne f.lt k.row5 f.row5⟩, k.block b f.lt f.ne f.row3 f.row4 f.row5⟩
theorem Free.heap {b : Nat} {o : Obj} (f : Free R w b) (k : KR R w w') (h : w.heap[b]? = some o) : w'.heap[b]? = some o := (f.step k).2.trans h
theorem RSt.setFree (h : RSt R w r) {b i : Nat} (f : b ≠ R) (hlo : R < b) (h3 : rowAt w R 3 ≠ some b) (h4 : rowAt w R 4 ≠ some b) (h5 : rowAt w R 5 ≠ some b) (v : Value) : RSt R (w.setCell ⟨b, i, none⟩ v) r := by
 obtain ⟨rv, mv, sv, av, h1, h2, h7, h8, h9⟩ := h.blk
 have hk : ∀ k, k ≠ b → (w.setCell ⟨b, i, none⟩ v).heap[k]? = w.heap[k]? := fun k hk => Below.heap_setCell _ _ _ _ hk
 have hb : Below R w (w.setCell ⟨b, i, none⟩ v) := ⟨rfl, rfl, rfl, by simp, fun k hk' => hk k (by omega)⟩
 refine ⟨⟨rv, mv, sv, av, (hk R (fun e => f e.symm)).trans h1, h2.below hb, owns_of_block h7 fun g hg => hk g fun e => ?_, owns_of_block h8 fun g hg => hk g fun e => ?_, owns_of_block h9 fun g hg => hk g fun e => ?_⟩, h.tab_of hb⟩
 ·subst e; rw [rowAt_of h1 (k := 3) rfl] at h3; exact h3 hg
 ·subst e; rw [rowAt_of h1 (k := 5) rfl] at h5; exact h5 hg
 ·subst e; rw [rowAt_of h1 (k := 4) rfl] at h4; exact h4 hg
theorem KR.setNew {w0 : World} (h : KR R w0 w) {b i : Nat} (hb : w0.heap.size ≤ b) (hR : R ≠ b) (v : Value) : KR R w0 (w.setCell ⟨b, i, none⟩ v) := by
 have hk : ∀ k, k ≠ b → (w.setCell ⟨b, i, none⟩ v).heap[k]? = w.heap[k]? := fun k hk => Below.heap_setCell _ _ _ _ hk
 have e : ∀ j, rowAt (w.setCell ⟨b, i, none⟩ v) R j = rowAt w R j := fun j => rowAt_same (hk R hR)
 exact ⟨h.os, h.tape, h.output, by simpa using h.size, fun k hk' hR' h3 h4 h5 => (hk k (by omega)).trans (h.block k hk' hR' h3 h4 h5), by rw [e]; exact h.row3, by rw [e]; exact h.row4, by rw [e]; exact h.row5⟩
end
end Go.Proofs.YtbokdbaagacnlaaGreatDoor
namespace Go.Proofs.YtbokdbaagacnlaaGreatDoor
open Go.RowKit Go.Lib
section
variable {R : Nat} {w w' : World} {r r' : RS}
theorem RSt.set2 (h : RSt R w r) (b : Bool) : RSt R (w.setCell ⟨R, 2, none⟩ (.bool (r.wrong || !b))) (r.require b) ∧ KR R w (w.setCell ⟨R, 2, none⟩ (.bool (r.wrong || !b))) := by
 obtain ⟨rv, mv, sv, av, h1, h2, h3, h4⟩ := h.blk
 exact ⟨h.change (heap_set_same (i := 2) h1) h2 h3 h4 rfl rfl rfl (by simp) (fun k _ hk => Below.heap_setCell _ _ _ _ hk), .setR _ h1 (by decide) (by decide) (by decide)⟩
set_option maxRecDepth 1000000 in
theorem rd_require (h : RSt R w r) (b : Bool) : Calls Tryz.prog 124 #[.pointer (some ⟨R, 0, none⟩), .bool b] w fun e w' => e = .returned (.tuple #[]) ∧ RSt R w' (r.require b) ∧ KR R w w' := by
 have H2 : Hid _ := h.set2 b
 obtain ⟨rv, mv, sv, av, h1, h2, h3, h4⟩ := h.blk
 have c2 := cell_of_heap (i := 2) h1 rfl
 have z2 := frozen_of_heap (i := 2) h1
 clear h h1 h2 h3 h4
 have hnot : ∀ (x : Bool) (w : World), (Op.unary .not (.bool x)).run Tryz.prog w = .ok (.bool (!x)) w := fun _ _ => rfl
 cases hw : r.wrong with
 | true =>
  rw [hw] at c2 H2
  go_enter Tryz.func124, Tryz.ntmps124
  go_wp2
  go_end0
  exact ⟨rfl, by simpa using H2.out⟩
 | false =>
  rw [hw] at c2 H2
  go_enter Tryz.func124, Tryz.ntmps124
  go_wp2
  go_end0
  exact ⟨rfl, by simpa using H2.out⟩
theorem RestAt.slice {v : Value} {l : List UInt8} (h : RestAt R w v l) : ∃ ao cp, v = .slice ao l.length cp ∧ l.length ≤ cp := by obtain ⟨ao, cp, h1, h2, -⟩ := h; exact ⟨ao, cp, h1, h2⟩
theorem RestAt.drop {ao : Option Addr} {cp : Nat} {l : List UInt8} (h : RestAt R w (.slice ao l.length cp) l) (n : Nat) (hn : n ≤ l.length) {ao' : Option Addr} (ha : n < l.length → ∃ C off, ao = some ⟨C, off, none⟩ ∧ ao' = some ⟨C, off + n, none⟩) : RestAt R w (.slice ao' (l.length - n) (cp - n)) (l.drop n) := by
 obtain ⟨ao2, cp2, h1, h2, h3⟩ := h
 injection h1 with e1 e2 e3
 subst e1 e3
 refine ⟨ao', cp - n, by simp, by simp; omega, fun j b hj => ?_⟩
 rw [List.getElem?_drop] at hj
 have hlt : n + j < l.length := by
  rcases Nat.lt_or_ge (n + j) l.length with q | q
  ·exact q
  ·rw [List.getElem?_eq_none q] at hj; cases hj
 obtain ⟨C, off, hC, h4, h5⟩ := h3 _ b hj
 obtain ⟨C2, off2, h6, h7⟩ := ha (by omega)
 rw [h4] at h6
 injection h6 with h6
 injection h6 with h6 h8
 subst h6 h8
 exact ⟨C, off + n, hC, h7, by rw [Nat.add_assoc]; exact h5⟩
theorem BytesIn.zeros {B n : Nat} {g : Nat} {c : Nat} (h : w.ownsRow B 5 1 (.slice (some ⟨g, 0, none⟩) n c) n (madeCells (Value.int .u8 0).cells (n * 1)).toList) : BytesIn w (.slice (some ⟨g, 0, none⟩) n c) (List.replicate n 0) := by
 refine ⟨some ⟨g, 0, none⟩, c, by simp, fun j b hj => ?_⟩
 rw [Nat.mul_one, show (Value.int .u8 0).cells = #[.int .u8 0] from rfl, toList_madeCells_one] at h
 rw [List.getElem?_replicate] at hj
 split at hj
 ·rename_i hlt
  injection hj with hj
  subst hj
  have := h.cells (g := g) rfl j (.int .u8 0) (by rw [List.getElem?_replicate, if_pos hlt])
  refine ⟨g, 0, rfl, ?_⟩
  rw [show (⟨g, 0, none⟩ : Addr).add j = ⟨g, 0 + j, none⟩ by unfold Addr.add; split <;> simp_all] at this
  exact this
 ·cases hj
theorem RestAt.head {ao : Option Addr} {cp : Nat} {l : List UInt8} (h : RestAt R w (.slice ao l.length cp) l) (n : Nat) (hn : n ≤ l.length) (cp' : Nat) : BytesIn w (.slice ao n cp') (l.take n) := by
 obtain ⟨ao2, cp2, h1, h2, h3⟩ := h
 injection h1 with e1 e2 e3
 subst e1 e3
 refine ⟨ao, cp', by simp; omega, fun j b hj => ?_⟩
 rw [List.getElem?_take] at hj
 split at hj
 ·obtain ⟨C, off, hC, h4, h5⟩ := h3 _ b hj
  exact ⟨C, off, h4, h5⟩
 ·cases hj
theorem RestAt.set {v : Value} {l : List UInt8} (h : RestAt R w v l) (i : Nat) (x : Value) : RestAt R (w.setCell ⟨R, i, none⟩ x) v l :=
 h.below ⟨rfl, rfl, rfl, by simp, fun k hk => Below.heap_setCell _ _ _ _ (by simp; omega)⟩
set_option maxRecDepth 1000000 in
set_option maxHeartbeats 1000000 in
theorem rd_take (h : RSt R w r) (n : Nat) (hn : n ≤ 1000) : Calls Tryz.prog 168 #[.pointer (some ⟨R, 0, none⟩), .int .i64 n] w fun e w' => ∃ v, e = .returned v ∧ RSt R w' (r.take n).2 ∧ KR R w w' ∧ BytesIn w' v (r.take n).1 := by
 obtain ⟨i0, hi, hz0, hz1, hz2⟩ := info_parts Tryz.infoByte
 have hrq := rd_require h (decide (n ≤ r.rest.length))
 obtain ⟨rv, mv, sv, av, h1, h2, h3, h4⟩ := h.blk
 obtain ⟨ao, cp, rfl, hcp⟩ := h2.slice
 have c0 := cell_of_heap (i := 0) h1 rfl
 clear h h1 h2 h3 h4
 generalize hm : r.rest.length = m at *
 have HM : Hid (r.rest.length = m) := hm
 clear hm
 go_enter Tryz.func168, Tryz.ntmps168
 go_wp2_with fail
 refine hrq.mono ?_
 rintro e w1 ⟨rfl, h1, k1⟩
 clear hrq c0
 have H1 : Hid _ := h1
 have K1 : Hid _ := k1
 obtain ⟨rv1, mv1, sv1, av1, b1, b2, b3, b4⟩ := h1.blk
 have c2 : w1.cell? ⟨R, 2, none⟩ = some (.bool (r.require (decide (n ≤ m))).wrong) := cell_of_heap b1 rfl
 have c0 : w1.cell? ⟨R, 0, none⟩ = some rv1 := cell_of_heap b1 rfl
 have z0 := frozen_of_heap (i := 0) b1
 have hb2 : RestAt R w1 rv1 r.rest := b2
 obtain ⟨ao1, cp1, rfl, hcp1⟩ := hb2.slice
 have HB2 : Hid (RestAt R w1 (.slice ao1 r.rest.length cp1) r.rest) := hb2
 have HB : Hid _ := And.intro b1 (And.intro b3 b4)
 clear h1 k1 b1 b2 b3 b4 hb2
 rw [HM.out] at hcp1 c0
 cases hw : (r.require (decide (n ≤ m))).wrong with
 | true =>
  have HW : Hid ((r.require (decide (n ≤ m))).wrong = true) := hw
  rw [hw] at c2
  clear hw
  go_wp2_with (first
    | (at_make; refine wpList_make_full _ rfl _ _ 111 rfl (R + 1) 5 i0 (.int .u8 0) 1 Tryz.underlying111 hi hz0 hz1 _ _ _ _ n rfl rfl rfl rfl (by rw [hz2]; omega) (by unfold maxLen; omega) (Nat.succ_le_of_lt H1.out.lR) ?_; intro w2 hown hgrow; have Q : Hid _ := And.intro hown hgrow; clear hown hgrow)
    | fail)
  go_ret
  have hbl : Below w1.heap.size w1 w2 := ⟨Q.out.2.os, Q.out.2.tape, Q.out.2.output, Q.out.2.size, fun k hk => Q.out.2.block k hk (by simp)⟩
  refine ⟨_, rfl, ?_, K1.out.trans (.of_below hbl H1.out.lR), ?_⟩
  ·unfold RS.take
   rw [HM.out, if_pos HW.out]
   exact H1.out.later hbl
  ·unfold RS.take
   rw [HM.out, if_pos HW.out]
   exact .zeros Q.out.1
 | false =>
  have HW : Hid ((r.require (decide (n ≤ m))).wrong = false) := hw
  have hnm : n ≤ m := of_decide_eq_true (RS.require_wrong hw).2
  rw [hw] at c2
  clear hw
  go_wp2
  all_goals
   go_ret
   refine ⟨_, rfl, ?_, K1.out.trans (.setR _ HB.out.1 (by decide) (by decide) (by decide)), ?_⟩
   ·unfold RS.take
    rw [HM.out, if_neg (by rw [HW.out]; decide)]
    refine H1.out.change (heap_set_same (i := 0) HB.out.1) ?_ HB.out.2.1 HB.out.2.2 rfl rfl rfl (by simp) (fun k _ hk => Below.heap_setCell _ _ _ _ hk)
    first
     | (have q := HB2.out.drop n (by rw [HM.out]; exact hnm) (ao' := Option.map (fun x => x.add n) ao1) (fun hlt => by
       obtain ⟨ao2, cp2, e1, -, h3⟩ := HB2.out
       injection e1 with e1
       obtain ⟨C, off, -, h4, -⟩ := h3 0 _ (List.getElem?_eq_getElem (by omega))
       refine ⟨C, off, e1.trans h4, ?_⟩
       rw [e1.trans h4]
       show some ((⟨C, off, none⟩ : Addr).add n) = _
       congr 1
       unfold Addr.add
       split <;> simp_all)
        rw [HM.out] at q
        exact q)
     | (have q := HB2.out.drop n (by rw [HM.out]; exact hnm) (ao' := ao1) (fun hlt => by rw [HM.out] at hlt; omega)
        rw [HM.out, show cp1 - n = 0 by omega] at q
        exact q)
   ·unfold RS.take
    rw [HM.out, if_neg (by rw [HW.out]; decide)]
    exact (HB2.out.set _ _).head n (by rw [HM.out]; exact hnm) _
set_option maxRecDepth 1000000 in
theorem rd_next (h : RSt R w r) : Calls Tryz.prog 125 #[.pointer (some ⟨R, 0, none⟩)] w fun e w' => e = .returned (.int .u8 r.next.1.toNat) ∧ RSt R w' r.next.2 ∧ KR R w w' := by
 have htk := rd_take h 1 (by decide)
 clear h
 go_enter Tryz.func125, Tryz.ntmps125
 go_wp2_with fail
 refine htk.mono ?_
 rintro e w1 ⟨v, rfl, h1, k1, hb⟩
 have Q : Hid _ := And.intro h1 k1
 clear htk h1 k1
 obtain ⟨x, hx⟩ : ∃ x, (r.take 1).1 = [x] := by
  unfold RS.take
  split
  ·exact ⟨_, rfl⟩
  ·rename_i hw
   have : ¬ r.rest.length < 1 := by
    intro hl
    apply hw
    show (r.wrong || !decide (1 ≤ r.rest.length)) = true
    rw [decide_eq_false (by omega)]
    simp
   match hr : r.rest with
   | [] => simp [hr] at this
   | x :: l => exact ⟨x, by simp⟩
 rw [hx] at hb
 have HX : Hid (r.next.1 = x) := by show (r.take 1).1.headD 0 = x; rw [hx]; rfl
 obtain ⟨ao, cp, rfl, hc⟩ := hb
 obtain ⟨C, off, rfl, c1⟩ := hc 0 x rfl
 simp only [Nat.add_zero] at c1
 clear hc hx
 go_wp2
 go_ret
 exact ⟨by rw [HX.out]; rfl, Q.out⟩
set_option maxRecDepth 1000000 in
theorem rd_place (h : RSt R w r) : Calls Tryz.prog 129 #[.pointer (some ⟨R, 0, none⟩)] w fun e w' => e = .returned (.agg #[.int .i64 r.place.1]) ∧ RSt R w' r.place.2 ∧ KR R w w' := by
 have hb0 : Below w.heap.size w (w.alloc (.cells #[.int .i64 0] 153)) := (Below.refl _ _).alloc (Nat.le_refl _) _
 have hnx := rd_next (h.later hb0)
 have f0 : Free R (w.alloc (.cells #[.int .i64 0] 153)) w.heap.size := h.free_new hb0 (Nat.le_refl _) (by simp)
 have LR : Hid (R < w.heap.size) := h.lR
 have H0 : Hid _ := KR.of_below hb0 h.lR
 have F0 : Hid (Free R (w.alloc (.cells #[.int .i64 0] 153)) w.heap.size) := f0
 clear h hb0 f0
 go_enter Tryz.func129, Tryz.ntmps129
 go_wp2_with fail
 refine hnx.mono ?_
 rintro e w1 ⟨rfl, h1, k1⟩
 have hrq := rd_require h1 (decide ((r.next.1.toNat : Int) < 200))
 have K1 : Hid _ := H0.out.trans k1
 have F1 : Hid _ := And.intro (F0.out.step k1).1 (F0.out.heap k1 (heap_alloc_new _ _))
 clear hnx h1 k1
 have hx : r.next.1.toNat < 256 := r.next.1.toNat_lt
 generalize hX : r.next.1.toNat = X at *
 go_wp2_with fail
 refine hrq.mono ?_
 rintro e w2 ⟨rfl, h2, k2⟩
 have b2 := F1.out.1.heap k2 F1.out.2
 have z0 := frozen_of_heap (i := 0) b2
 have c0 := cell_of_heap (i := 0) b2 rfl
 have HK : Hid _ := K1.out.trans k2
 have hf : Free R w2 w.heap.size := (F1.out.1.step k2).1
 have hb2 : w2.heap[w.heap.size]? = some (.cells #[.int .i64 0] 153 (0, 0)) := b2
 have H2 : Hid _ := h2
 clear hrq h2 k2
 have HE : Hid (decide ((X : Int) < 200) = decide (X < 200)) := by show _ = _; congr 1; simp; omega
 have HXX : Hid (r.next.1.toNat = X) := hX
 have HF : Hid _ := And.intro hf hb2
 clear hX b2 hf hb2 hx
 go_wp2
 have q := heap_set_same (i := 0) (v := .int .i64 X) HF.out.2
 have c1 := cell_of_heap (i := 0) q rfl
 refine bodyPost_ret (v := .agg #[.int .i64 X]) (by simp [results, Tryz.results129, go_sem, c1]) rfl ⟨?_, ?_, ?_⟩
 ·show _ = Ending.returned (.agg #[.int .i64 (r.next.1.toNat : Int)])
  rw [HXX.out]
 ·have h3 := H2.out
  rw [HE.out] at h3
  have e : r.place.2 = r.next.2.require (decide (X < 200)) := by unfold RS.place; rw [HXX.out]
  rw [e]
  exact h3.setFree HF.out.1.ne LR.out HF.out.1.row3 HF.out.1.row4 HF.out.1.row5 _
 ·exact HK.out.setNew (Nat.le_refl _) (Nat.ne_of_lt LR.out) _
end
end Go.Proofs.YtbokdbaagacnlaaGreatDoor
