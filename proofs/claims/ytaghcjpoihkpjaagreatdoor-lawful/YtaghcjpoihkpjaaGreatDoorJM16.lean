/-
  THE PROGRAM's Write: appendParts, WALKED, for whatever appendPart does.
-/
import Derived.Test.YtaghcjpoihkpjaaGreatDoorJM15
import Derived.Deep.RegionHeldLaw
import Derived.Deep.RegionHeld3
import Derived.Test.YtaghcjpoihkpjaaGreatDoorJM14
import Derived.Test.YtaghcjpoihkpjaaGreatDoorJM5
namespace Go.Proofs.YtaghcjpoihkpjaaGreatDoor
open Go.RowKit Go.Lib

/-- The blocks below a number. -/
abbrev Lt (B : Nat) : Nat → Prop := fun b => b < B
theorem nm_below {B : Nat} {w w' : World} (h : Below B w w') : NMoves (Lt B) (Lt B) w w' := fun b hP _ _ _ _ => ⟨hP, h.block b hP⟩
theorem CNodes.length {P : Nat → Prop} {w : World} : ∀ {ts : List Tree} {vs : List Value}, CNodes P w ts vs → vs.length = ts.length
  | [], vs, h => by unfold CNodes at h; rw [h]; rfl
  | t :: ts, vs, h => by
    unfold CNodes at h
    obtain ⟨v, vs', rfl, h2, h3⟩ := h
    simp [CNodes.length h3]
theorem CNodes.get {P : Nat → Prop} {w : World} : ∀ {ts : List Tree} {vs : List Value}, CNodes P w ts vs → ∀ (j : Nat) (t : Tree), ts[j]? = some t → ∃ v, vs[j]? = some v ∧ CNode P w t v
  | [], vs, h, j, t, hj => by simp at hj
  | a :: ts, vs, h, j, t, hj => by
    unfold CNodes at h
    obtain ⟨v, vs', rfl, h2, h3⟩ := h
    cases j with
    | zero => simp at hj; subst hj; exact ⟨v, rfl, h2⟩
    | succ j => simp at hj; simpa using CNodes.get h3 j t hj
theorem encs_append : ∀ a b, encs (a ++ b) = encs a ++ encs b
  | [], b => by simp [encs]
  | t :: a, b => by simp [encs, encs_append a b]
theorem encs_take {ts : List Tree} {j : Nat} {t : Tree} (h : ts[j]? = some t) : encs (ts.take (j + 1)) = encs (ts.take j) ++ enc t := by
  rw [List.take_add_one, h, encs_append]
  simp [encs]
theorem encs_take_le {ts : List Tree} (j : Nat) : (encs (ts.take j)).length ≤ (encs ts).length := by
  have h := encs_append (ts.take j) (ts.drop j)
  rw [List.take_append_drop] at h
  rw [h, List.length_append]
  omega
theorem owns_len {w : World} {base e size n : Nat} {v : Value} {xs : List Value} (h : w.ownsRow base e size v n xs) : ∃ ao cp, v = .slice ao n cp := by
  rcases h.2 with ⟨rfl, rfl⟩ | ⟨g, cap, cur, rfl, -⟩
  · exact ⟨_, _, rfl⟩
  · exact ⟨_, _, rfl⟩
/-- An element of a row. -/
theorem owns_at {w : World} {base e n : Nat} {ao : Option Addr} {cp m : Nat} {xs : List Value} (h : w.ownsRow base e 1 (.slice ao m cp) n xs) {j : Nat} {x : Value} (hj : xs[j]? = some x) : ∃ g, ao = some ⟨g, 0, none⟩ ∧ w.cell? ⟨g, j, none⟩ = some x := by
  rcases h.2 with ⟨h1, rfl⟩ | ⟨g, cap, cur, h1, -⟩
  · have : xs = [] := List.eq_nil_of_length_eq_zero (by have := h.1; omega)
    subst this
    simp at hj
  · injection h1 with h1 h2 h3
    subst h1
    refine ⟨g, rfl, ?_⟩
    have := h.cells (g := g) rfl j x hj
    rwa [show (⟨g, 0, none⟩ : Addr).add j = ⟨g, j, none⟩ by unfold Addr.add; split <;> simp_all] at this
theorem W8.owns {B : Nat} {w w' : World} (h : W8 B w w') {base e n : Nat} {v : Value} {xs : List Value} (ho : w.ownsRow base e 1 v n xs) (he : e ≠ 5) : w'.ownsRow base e 1 v n xs :=
  owns_of_block ho fun g hg => by
    obtain ⟨c, fz, q⟩ := ownsRow_kind ho g hg
    rw [h.kind g c e fz q he, q]

/-- What appendPart does at a tree. -/
def WCon (B : Nat) (t : Tree) : Prop := ∀ (w : World) (vo v : Value) (l : List UInt8), CNode (Lt B) w t v → Out8 B w vo l → B ≤ w.heap.size → l.length + (enc t).length ≤ 1000000 →
  Calls Tryz.prog 48 #[vo, v] w fun e w' => ∃ vo', e = .returned vo' ∧ Out8 B w' vo' (l ++ enc t) ∧ W8 B w w'

set_option maxRecDepth 1000000 in
theorem code_appendParts {B : Nat} (ts : List Tree) (hts : ∀ t ∈ ts, WCon B t) {w : World} {vo lv : Value} {l : List UInt8} {vs : List Value} (hn : CNodes (Lt B) w ts vs) (hr : w.ownsRow 0 134 1 lv vs.length vs) (ho : Out8 B w vo l) (hB : B ≤ w.heap.size) (hl : l.length + (encs ts).length ≤ 1000000) (h200 : ts.length ≤ 1000) :
    Calls Tryz.prog 78 #[vo, lv] w fun e w' => ∃ vo', e = .returned vo' ∧ Out8 B w' vo' (l ++ encs ts) ∧ W8 B w w' := by
  obtain ⟨ao, cp, rfl⟩ := owns_len hr
  have hlen := hn.length
  have HN : Hid (CNodes (Lt B) w ts vs) := hn
  have HR : Hid (w.ownsRow 0 134 1 (.slice ao vs.length cp) vs.length vs) := hr
  have HO : Hid (Out8 B w vo l) := ho
  have HT : Hid (∀ t ∈ ts, WCon B t) := hts
  clear hn hr ho hts
  generalize vs.length = m at *
  have HL : Hid (m = ts.length) := hlen
  have hm : m ≤ 1000 := by omega
  clear hlen h200
  go_enter Tryz.func78, Tryz.ntmps78
  go_wp2_with fail
  go_loopw [0, 9] (fun v0 v9 wr => ∃ j : Nat, v9 = .int .i64 j ∧ j ≤ m ∧ Hid (Out8 B wr v0 (l ++ encs (ts.take j)) ∧ W8 B w wr)) (fun _ v9 _ => m - (intOf v9).toNat)
  case atStart => exact ⟨0, rfl, Nat.zero_le _, by simpa [encs] using HO.out, W8.refl _ _⟩
  case round =>
    obtain ⟨j, rfl, hj, HI⟩ := hrel
    rcases Nat.lt_or_ge j m with hlt | hge
    · obtain ⟨t, ht⟩ : ∃ t, ts[j]? = some t := ⟨ts[j], List.getElem?_eq_getElem (by have := HL.out; omega)⟩
      obtain ⟨v, hv, hcn⟩ := HN.out.get j t ht
      obtain ⟨g, rfl, c1⟩ := owns_at (HI.out.2.owns HR.out (by decide)) hv
      have hlt2 : (j : Int) < m := by omega
      have hbd : (l ++ encs (ts.take j)).length + (enc t).length ≤ 1000000 := by
        have h1 := encs_take ht
        have h2 := encs_take_le (ts := ts) (j + 1)
        rw [h1, List.length_append] at h2
        rw [List.length_append]
        omega
      have hpc := HT.out t (List.mem_of_getElem? ht) wr _ v (l ++ encs (ts.take j)) (hcn.moves (nm_below HI.out.2.below)) HI.out.1 (Nat.le_trans hB HI.out.2.size) hbd
      have HE : Hid (encs (ts.take (j + 1)) = encs (ts.take j) ++ enc t) := encs_take ht
      clear ht hv hcn hbd
      go_wp2_with fail
      refine hpc.mono ?_
      rintro e w2 ⟨v2, rfl, h2⟩
      have H2 : Hid _ := h2
      clear h2 hpc
      go_wp2
      go_roundw
      case rel => exact ⟨j + 1, by go_num, by omega, by rw [HE.out, ← List.append_assoc]; exact H2.out.1, HI.out.2.trans H2.out.2⟩
      case measure => simp [intOf]; omega
    · have hge2 : ¬ (j : Int) < m := by omega
      have HJ : Hid (j = ts.length) := by have := HL.out; show j = ts.length; omega
      go_wp2
      go_ret
      refine ⟨_, rfl, ?_, HI.out.2⟩
      have := HI.out.1
      rw [HJ.out, List.take_length] at this
      exact this
end Go.Proofs.YtaghcjpoihkpjaaGreatDoor
namespace Go.Proofs.YtaghcjpoihkpjaaGreatDoor
open Go.Lib
open Go.RowKit (wrap64)

/-- No more names than good parts. -/
def RS.Len (r : RS) : Prop := (r.wrong = false → (r.mets.length : Int) ≤ r.parts ∧ (r.asks.length : Int) ≤ r.parts ∧ (r.spans.length : Int) ≤ r.parts) ∧ r.mets.length ≤ 200 ∧ r.asks.length ≤ 200 ∧ r.spans.length ≤ 200
def RS.Good (r : RS) : Prop := r.Ok ∧ r.Len
theorem RS.Good.same {r r' : RS} (h : r.Good) (hf : r.From r') (hm : r'.mets = r.mets) (ha : r'.asks = r.asks) (hs : r'.spans = r.spans) : r'.Good := by
  have h2 := hf h.1
  refine ⟨h2.1, ?_, by rw [hm]; exact h.2.2.1, by rw [ha]; exact h.2.2.2.1, by rw [hs]; exact h.2.2.2.2⟩
  intro hw
  have h3 := h2.2 hw
  have h4 := h.2.1 h3.1
  rw [hm, ha, hs]
  omega
theorem RS.mets_require (r : RS) (b : Bool) : (r.require b).mets = r.mets ∧ (r.require b).asks = r.asks ∧ (r.require b).spans = r.spans := ⟨rfl, rfl, rfl⟩
theorem RS.mets_take (r : RS) (n : Nat) : (r.take n).2.mets = r.mets ∧ (r.take n).2.asks = r.asks ∧ (r.take n).2.spans = r.spans := by
  unfold RS.take
  split <;> exact ⟨rfl, rfl, rfl⟩
theorem RS.mets_next (r : RS) : r.next.2.mets = r.mets ∧ r.next.2.asks = r.asks ∧ r.next.2.spans = r.spans := RS.mets_take r 1
theorem RS.mets_place (r : RS) : r.place.2.mets = r.mets ∧ r.place.2.asks = r.asks ∧ r.place.2.spans = r.spans := RS.mets_next r
theorem RS.mets_number (r : RS) : r.number.2.mets = r.mets ∧ r.number.2.asks = r.asks ∧ r.number.2.spans = r.spans := RS.mets_take r 4
theorem RS.mets_name (r : RS) : r.name.2.mets = r.mets ∧ r.name.2.asks = r.asks ∧ r.name.2.spans = r.spans := ⟨(RS.mets_take _ _).1.trans (RS.mets_next r).1, (RS.mets_take _ _).2.1.trans (RS.mets_next r).2.1, (RS.mets_take _ _).2.2.trans (RS.mets_next r).2.2⟩
theorem RS.mets_measure (r : RS) : r.measure.2.mets.length ≤ r.mets.length + 1 ∧ r.measure.2.asks = r.asks ∧ r.measure.2.spans.length = r.spans.length + 1 := by
  unfold RS.measure
  dsimp only
  refine ⟨?_, ?_, ?_⟩
  · have h := note1_length (((r.place.2.name).2.require (isMeasure (r.place.2.name).1)).name).2.number.2.mets (((r.place.2.name).2.require (isMeasure (r.place.2.name).1)).name).1
    rw [(RS.mets_number _).1, (RS.mets_name _).1, (RS.mets_require _ _).1, (RS.mets_name _).1, (RS.mets_place _).1] at h
    rw [(RS.mets_number _).1, (RS.mets_name _).1, (RS.mets_require _ _).1, (RS.mets_name _).1, (RS.mets_place _).1]
    omega
  · rw [(RS.mets_number _).2.1, (RS.mets_name _).2.1, (RS.mets_require _ _).2.1, (RS.mets_name _).2.1, (RS.mets_place _).2.1]
  · rw [List.length_append, (RS.mets_number _).2.2, (RS.mets_name _).2.2, (RS.mets_require _ _).2.2, (RS.mets_name _).2.2, (RS.mets_place _).2.2]
    simp
theorem RS.Good.begin {r : RS} (h : r.Good) : r.begin.Good := h.same (.begin r) rfl rfl rfl
/-- Behind a good beginning there is room for one name more. -/
theorem RS.begin_room {r : RS} (h : r.Good) (hb : r.begin.wrong = false) : r.begin.parts = r.parts + 1 ∧ r.parts < 200 ∧ (r.mets.length : Int) ≤ r.parts ∧ (r.asks.length : Int) ≤ r.parts ∧ (r.spans.length : Int) ≤ r.parts := by
  have h1 := RS.begin_ok h.1 hb
  have h2 := h.2.1 h1.1
  exact ⟨h1.2.1, h1.2.2.2, h2.1, h2.2⟩
theorem RS.Good.one {r r1 r' : RS} (hr1 : r1.Ok) (hf : r1.From r') (hp : r1.parts = r.parts + 1) (h200 : r.parts < 200) (h1 : (r.mets.length : Int) ≤ r.parts) (h2 : (r.asks.length : Int) ≤ r.parts) (h5 : (r.spans.length : Int) ≤ r.parts) (hm : r'.mets.length ≤ r.mets.length + 1) (ha : r'.asks.length ≤ r.asks.length + 1) (hs : r'.spans.length ≤ r.spans.length + 1) : r'.Good := by
  have h3 := hf hr1
  refine ⟨h3.1, fun hw => ?_, by omega, by omega, by omega⟩
  have := (h3.2 hw).2
  omega
theorem RS.Good.iter {g : RS → Tree × RS} (hg : ∀ r : RS, r.Good → (g r).2.Good) : ∀ (n : Nat) (r : RS), r.Good → (iter g n r).2.Good
  | 0, _, h => h
  | n + 1, r, h => hg _ (RS.Good.iter hg n r h)
theorem RS.Good.part : ∀ (f : Nat) (r : RS), r.Good → (RS.part f r).2.Good
  | 0, r, h => ⟨fun hw => (by cases hw), fun hw => (by cases hw), h.2.2⟩
  | f + 1, r, h => by
    have ih := RS.Good.part f
    have hB := h.begin
    unfold RS.part
    dsimp only
    split
    · exact hB
    · rename_i hw
      have hw : r.begin.wrong = false := by cases e : r.begin.wrong <;> simp_all
      have hroom := RS.begin_room h hw
      have hN := hB.same (.next _) (RS.mets_next _).1 (RS.mets_next _).2.1 (RS.mets_next _).2.2
      (repeat' split)
      · exact hN.same (.number _) (RS.mets_number _).1 (RS.mets_number _).2.1 (RS.mets_number _).2.2
      · exact ih _ hN
      · exact ih _ (ih _ (hN.same (.place _) (RS.mets_place _).1 (RS.mets_place _).2.1 (RS.mets_place _).2.2))
      · exact ih _ (ih _ (ih _ hN))
      · have hm := RS.mets_measure r.begin.next.2
        rw [(RS.mets_next _).1, (RS.mets_next _).2.1, (RS.mets_next _).2.2] at hm
        exact RS.Good.one (r := r) hB.1 ((RS.From.next _).trans (.measure _)) hroom.1 hroom.2.1 hroom.2.2.1 hroom.2.2.2.1 hroom.2.2.2.2 hm.1 (by rw [hm.2.1]; exact Nat.le_succ _) (by rw [hm.2.2]; exact Nat.le_refl _)
      · unfold RS.probe
        dsimp only
        refine RS.Good.iter ih _ _ ?_
        refine RS.Good.one (r := r) hB.1 ((((((RS.From.next _).trans (.place _)).trans (.name _)).trans (.require _ _)).trans (.asks _ _)).trans (.next _)) hroom.1 hroom.2.1 hroom.2.2.1 hroom.2.2.2.1 hroom.2.2.2.2 ?_ ?_ ?_
        · rw [(RS.mets_next _).1]
          simp only
          rw [(RS.mets_require _ _).1, (RS.mets_name _).1, (RS.mets_place _).1, (RS.mets_next _).1]
          exact Nat.le_succ _
        · rw [(RS.mets_next _).2.1]
          simp only
          rw [(RS.mets_require _ _).2.1, (RS.mets_name _).2.1, (RS.mets_place _).2.1, (RS.mets_next _).2.1]
          simp [RS.begin, RS.require]
        · rw [(RS.mets_next _).2.2]
          simp only
          rw [(RS.mets_require _ _).2.2, (RS.mets_name _).2.2, (RS.mets_place _).2.2, (RS.mets_next _).2.2]
          exact Nat.le_succ _
      · exact ih _ (ih _ (hN.same (.require _ _) rfl rfl rfl))
end Go.Proofs.YtaghcjpoihkpjaaGreatDoor
namespace Go.Proofs.YtaghcjpoihkpjaaGreatDoor
open Go.RowKit Go.Lib

/-- Bytes behind a slice, in blocks below a number. -/
def RestAt (R : Nat) (w : World) (v : Value) (l : List UInt8) : Prop := ∃ ao cp, v = .slice ao l.length cp ∧ l.length ≤ cp ∧ ∀ (j : Nat) (b : UInt8), l[j]? = some b → ∃ C off, C < R ∧ ao = some ⟨C, off, none⟩ ∧ w.cell? ⟨C, off + j, none⟩ = some (.int .u8 b.toNat)
/-- Bytes behind a slice. -/
def BytesIn (w : World) (v : Value) (l : List UInt8) : Prop := ∃ ao cp, v = .slice ao l.length cp ∧ ∀ (j : Nat) (b : UInt8), l[j]? = some b → ∃ C off, ao = some ⟨C, off, none⟩ ∧ w.cell? ⟨C, off + j, none⟩ = some (.int .u8 b.toNat)
def askCells (l : List (Nat × ByteArray)) : List Value := l.flatMap fun x => [.int .i64 (x.1 : Int), .string x.2]
def spanCells (l : List (ByteArray × Int)) : List Value := l.flatMap fun x => [.string x.1, .int .i64 x.2]
theorem spanCells_append (a b : List (ByteArray × Int)) : spanCells (a ++ b) = spanCells a ++ spanCells b := by simp [spanCells]
theorem askCells_append (a b : List (Nat × ByteArray)) : askCells (a ++ b) = askCells a ++ askCells b := by simp [askCells]
/-- The tables that the reader wants. -/
structure TabsR (w : World) : Prop where
  tabs : Tabs w
  pow : TabIs Tryz.prog w "internal/strconv.uint64pow10" .u64 pow10Tab
theorem Tryz.gPow : Tryz.prog.globalNamed "internal/strconv.uint64pow10" = some 15 := by kernel_rfl
theorem TabsR.below {w w' : World} (h : TabsR w) (hb : Below w.heap.size w w') : TabsR w' := ⟨h.tabs.below hb, TabIs_below Tryz.gPow h.pow hb⟩
/-- The reader's state. -/
structure RSt (R : Nat) (w : World) (r : RS) : Prop where
  blk : ∃ rv mv sv av, w.heap[R]? = some (.cells #[rv, .int .i64 r.parts, .bool r.wrong, mv, sv, av] 142 (0, 0)) ∧ RestAt R w rv r.rest ∧ w.ownsRow (R + 1) 9 1 mv r.mets.length (r.mets.map Value.string) ∧ w.ownsRow (R + 1) 144 2 av r.asks.length (askCells r.asks) ∧ w.ownsRow (R + 1) 257 2 sv r.spans.length (spanCells r.spans)
  tab : ∃ W0, TabsR W0 ∧ W0.heap.size ≤ R ∧ Below W0.heap.size W0 w
/-- The block of the row that lies in a field. -/
def rowAt (w : World) (R k : Nat) : Option Nat :=
  match w.heap[R]? with
  | some (.cells cs _ _) => (match (cs[k]? : Option Value) with | some v => v.ownBlock | none => none)
  | _ => none
theorem rowAt_of {w : World} {R k : Nat} {cs : Array Value} {t : TypeId} {z : Nat × Nat} {v : Value} (h : w.heap[R]? = some (.cells cs t z)) (hv : cs[k]? = some v) : rowAt w R k = v.ownBlock := by
  unfold rowAt
  rw [h]
  simp only [hv]
theorem rowAt_same {w w' : World} {R k : Nat} (h : w'.heap[R]? = w.heap[R]?) : rowAt w' R k = rowAt w R k := by unfold rowAt; rw [h]
/-- What the reader's methods leave alone: all but its block and its three rows. -/
structure KR (R : Nat) (w w' : World) : Prop where
  os : w'.os = w.os
  tape : w'.tape = w.tape
  output : w'.output = w.output
  size : w.heap.size ≤ w'.heap.size
  block : ∀ k, k < w.heap.size → k ≠ R → rowAt w R 3 ≠ some k → rowAt w R 4 ≠ some k → rowAt w R 5 ≠ some k → w'.heap[k]? = w.heap[k]?
  row3 : rowAt w' R 3 = rowAt w R 3 ∨ ∀ g, rowAt w' R 3 = some g → w.heap.size ≤ g
  row4 : rowAt w' R 4 = rowAt w R 4 ∨ ∀ g, rowAt w' R 4 = some g → w.heap.size ≤ g
  row5 : rowAt w' R 5 = rowAt w R 5 ∨ ∀ g, rowAt w' R 5 = some g → w.heap.size ≤ g
namespace KR
variable {R : Nat} {w w1 w2 : World}
theorem refl (R : Nat) (w : World) : KR R w w := ⟨rfl, rfl, rfl, Nat.le_refl _, fun _ _ _ _ _ _ => rfl, .inl rfl, .inl rfl, .inl rfl⟩
theorem rowne {k i : Nat} (hk : k < w.heap.size) (h : rowAt w1 R i = rowAt w R i ∨ ∀ g, rowAt w1 R i = some g → w.heap.size ≤ g) (hne : rowAt w R i ≠ some k) : rowAt w1 R i ≠ some k := by
  rcases h with h | h
  · rw [h]; exact hne
  · intro e; have := h k e; omega
theorem rowtrans {i : Nat} (hs : w.heap.size ≤ w1.heap.size) (h : rowAt w1 R i = rowAt w R i ∨ ∀ g, rowAt w1 R i = some g → w.heap.size ≤ g) (k : rowAt w2 R i = rowAt w1 R i ∨ ∀ g, rowAt w2 R i = some g → w1.heap.size ≤ g) : rowAt w2 R i = rowAt w R i ∨ ∀ g, rowAt w2 R i = some g → w.heap.size ≤ g := by
  rcases k with k | k
  · rw [k]; exact h
  · exact .inr fun g hg => Nat.le_trans hs (k g hg)
theorem trans (h : KR R w w1) (k : KR R w1 w2) : KR R w w2 :=
  ⟨k.os.trans h.os, k.tape.trans h.tape, k.output.trans h.output, Nat.le_trans h.size k.size,
    fun b hb hR h3 h4 h5 => (k.block b (Nat.lt_of_lt_of_le hb h.size) hR (rowne hb h.row3 h3) (rowne hb h.row4 h4) (rowne hb h.row5 h5)).trans (h.block b hb hR h3 h4 h5),
    rowtrans h.size h.row3 k.row3, rowtrans h.size h.row4 k.row4, rowtrans h.size h.row5 k.row5⟩
theorem of_below (h : Below w.heap.size w w1) (hR : R < w.heap.size) : KR R w w1 :=
  ⟨h.os, h.tape, h.output, h.size, fun k hk _ _ _ _ => h.block k hk, .inl (rowAt_same (h.block R hR)), .inl (rowAt_same (h.block R hR)), .inl (rowAt_same (h.block R hR))⟩
/-- A field that is no row is written. -/
theorem setR {cs : Array Value} {t : TypeId} {i : Nat} (v : Value) (h : w.heap[R]? = some (.cells cs t (0, 0))) (h3 : i ≠ 3) (h4 : i ≠ 4) (h5 : i ≠ 5) : KR R w (w.setCell ⟨R, i, none⟩ v) := by
  have e := heap_set_same (i := i) (v := v) h
  have hr : ∀ k, i ≠ k → rowAt (w.setCell ⟨R, i, none⟩ v) R k = rowAt w R k := fun k hk => by
    unfold rowAt
    rw [e, h]
    simp only
    rw [Array.getElem?_setIfInBounds_ne hk]
  exact ⟨rfl, rfl, rfl, by simp, fun k _ hR _ _ _ => Below.heap_setCell _ _ _ _ hR, .inl (hr 3 h3), .inl (hr 4 h4), .inl (hr 5 h5)⟩
theorem below (h : KR R w w1) {B : Nat} (hB : B ≤ R) (hw : R < w.heap.size) (h3 : ∀ g, rowAt w R 3 = some g → R < g) (h4 : ∀ g, rowAt w R 4 = some g → R < g) (h5 : ∀ g, rowAt w R 5 = some g → R < g) : Below B w w1 :=
  ⟨h.os, h.tape, h.output, h.size, fun k hk => h.block k (by omega) (by omega) (fun e => by have := h3 k e; omega) (fun e => by have := h4 k e; omega) (fun e => by have := h5 k e; omega)⟩
end KR
section
variable {R : Nat} {w w' : World} {r r' : RS}
theorem RestAt.below {v : Value} {l : List UInt8} (h : RestAt R w v l) (hb : Below R w w') : RestAt R w' v l := by
  obtain ⟨ao, cp, h1, h2, h3⟩ := h
  refine ⟨ao, cp, h1, h2, fun j b hj => ?_⟩
  obtain ⟨C, off, hC, h4, h5⟩ := h3 j b hj
  exact ⟨C, off, hC, h4, (World.cell?_of_block (hb.block C hC)).trans h5⟩
theorem RSt.lR (h : RSt R w r) : R < w.heap.size := by obtain ⟨a, b, c, d, h, -⟩ := h.blk; exact heap_lt h
theorem RSt.rows (h : RSt R w r) : (∀ g, rowAt w R 3 = some g → R < g) ∧ (∀ g, rowAt w R 4 = some g → R < g) ∧ (∀ g, rowAt w R 5 = some g → R < g) := by
  obtain ⟨rv, mv, sv, av, h1, -, h3, h4, h5⟩ := h.blk
  refine ⟨?_, ?_, ?_⟩
  · intro g hg
    rw [rowAt_of h1 (k := 3) rfl] at hg
    exact (h3.lt _ hg).1
  · intro g hg
    rw [rowAt_of h1 (k := 4) rfl] at hg
    exact (h5.lt _ hg).1
  · intro g hg
    rw [rowAt_of h1 (k := 5) rfl] at hg
    exact (h4.lt _ hg).1
theorem RSt.below_of (h : RSt R w r) (hk : KR R w w') : Below R w w' := hk.below (Nat.le_refl _) h.lR h.rows.1 h.rows.2.1 h.rows.2.2
theorem RSt.tab_of (h : RSt R w r) (hb : Below R w w') : ∃ W0, TabsR W0 ∧ W0.heap.size ≤ R ∧ Below W0.heap.size W0 w' := by
  obtain ⟨W0, h1, h2, h3⟩ := h.tab
  exact ⟨W0, h1, h2, h3.trans (hb.mono h2)⟩
theorem RSt.tabs (h : RSt R w r) : TabsR w := by obtain ⟨W0, h1, -, h3⟩ := h.tab; exact h1.below h3
/-- Another state with another block for the reader; all else as it was. -/
theorem RSt.change (h : RSt R w r) {rv mv sv av : Value} (hR : w'.heap[R]? = some (.cells #[rv, .int .i64 r'.parts, .bool r'.wrong, mv, sv, av] 142 (0, 0))) (hrest : RestAt R w rv r'.rest)
    (hm : w.ownsRow (R + 1) 9 1 mv r'.mets.length (r'.mets.map Value.string)) (ha : w.ownsRow (R + 1) 144 2 av r'.asks.length (askCells r'.asks) ∧ w.ownsRow (R + 1) 257 2 sv r'.spans.length (spanCells r'.spans))
    (hos : w'.os = w.os) (htp : w'.tape = w.tape) (hou : w'.output = w.output) (hsz : w.heap.size ≤ w'.heap.size) (hk : ∀ k, k < w.heap.size → k ≠ R → w'.heap[k]? = w.heap[k]?) : RSt R w' r' := by
  have lR := h.lR
  have hb : Below R w w' := ⟨hos, htp, hou, hsz, fun k hk' => hk k (by omega) (by omega)⟩
  refine ⟨⟨rv, mv, sv, av, hR, hrest.below hb, owns_of_block hm fun g hg => hk g (hm.lt _ hg).2 (by have := (hm.lt _ hg).1; omega), owns_of_block ha.1 fun g hg => hk g (ha.1.lt _ hg).2 (by have := (ha.1.lt _ hg).1; omega), owns_of_block ha.2 fun g hg => hk g (ha.2.lt _ hg).2 (by have := (ha.2.lt _ hg).1; omega)⟩, h.tab_of hb⟩
theorem RSt.later (h : RSt R w r) (hb : Below w.heap.size w w') : RSt R w' r := by
  have lR := h.lR
  obtain ⟨rv, mv, sv, av, h1, h2, h3, h4⟩ := h.blk
  exact h.change ((hb.block R lR).trans h1) h2 h3 h4 hb.os hb.tape hb.output hb.size (fun k hk _ => hb.block k hk)
/-- A block that is neither the reader's nor one of its rows'. -/
structure Free (R : Nat) (w : World) (b : Nat) : Prop where
  ne : b ≠ R
  lt : b < w.heap.size
  row3 : rowAt w R 3 ≠ some b
  row4 : rowAt w R 4 ≠ some b
  row5 : rowAt w R 5 ≠ some b
theorem RSt.rowlt (h : RSt R w r) : (∀ g, rowAt w R 3 = some g → g < w.heap.size) ∧ (∀ g, rowAt w R 4 = some g → g < w.heap.size) ∧ (∀ g, rowAt w R 5 = some g → g < w.heap.size) := by
  obtain ⟨rv, mv, sv, av, h1, -, h3, h4, h5⟩ := h.blk
  refine ⟨?_, ?_, ?_⟩
  · intro g hg
    rw [rowAt_of h1 (k := 3) rfl] at hg
    exact (h3.lt _ hg).2
  · intro g hg
    rw [rowAt_of h1 (k := 4) rfl] at hg
    exact (h5.lt _ hg).2
  · intro g hg
    rw [rowAt_of h1 (k := 5) rfl] at hg
    exact (h4.lt _ hg).2
/-- A block that is new. -/
theorem RSt.free_new (h : RSt R w r) (hb : Below w.heap.size w w') {b : Nat} (h1 : w.heap.size ≤ b) (h2 : b < w'.heap.size) : Free R w' b := by
  have lR := h.lR
  have e : ∀ i, rowAt w' R i = rowAt w R i := fun i => rowAt_same (hb.block R lR)
  exact ⟨by omega, h2, fun q => by rw [e] at q; have := h.rowlt.1 b q; omega, fun q => by rw [e] at q; have := h.rowlt.2.1 b q; omega, fun q => by rw [e] at q; have := h.rowlt.2.2 b q; omega⟩
theorem Free.step {b : Nat} (f : Free R w b) (k : KR R w w') : Free R w' b ∧ w'.heap[b]? = w.heap[b]? :=
  ⟨⟨f.ne, Nat.lt_of_lt_of_le f.lt k.size, KR.rowne f.lt k.row3 f.row3, KR.rowne f.lt k.row4 f.row4, KR.rowne f.lt k.row5 f.row5⟩, k.block b f.lt f.ne f.row3 f.row4 f.row5⟩
theorem Free.heap {b : Nat} {o : Obj} (f : Free R w b) (k : KR R w w') (h : w.heap[b]? = some o) : w'.heap[b]? = some o := (f.step k).2.trans h
/-- A free block is written. -/
theorem RSt.setFree (h : RSt R w r) {b i : Nat} (f : b ≠ R) (hlo : R < b) (h3 : rowAt w R 3 ≠ some b) (h4 : rowAt w R 4 ≠ some b) (h5 : rowAt w R 5 ≠ some b) (v : Value) : RSt R (w.setCell ⟨b, i, none⟩ v) r := by
  obtain ⟨rv, mv, sv, av, h1, h2, h7, h8, h9⟩ := h.blk
  have hk : ∀ k, k ≠ b → (w.setCell ⟨b, i, none⟩ v).heap[k]? = w.heap[k]? := fun k hk => Below.heap_setCell _ _ _ _ hk
  have hb : Below R w (w.setCell ⟨b, i, none⟩ v) := ⟨rfl, rfl, rfl, by simp, fun k hk' => hk k (by omega)⟩
  refine ⟨⟨rv, mv, sv, av, (hk R (fun e => f e.symm)).trans h1, h2.below hb, owns_of_block h7 fun g hg => hk g fun e => ?_, owns_of_block h8 fun g hg => hk g fun e => ?_, owns_of_block h9 fun g hg => hk g fun e => ?_⟩, h.tab_of hb⟩
  · subst e; rw [rowAt_of h1 (k := 3) rfl] at h3; exact h3 hg
  · subst e; rw [rowAt_of h1 (k := 5) rfl] at h5; exact h5 hg
  · subst e; rw [rowAt_of h1 (k := 4) rfl] at h4; exact h4 hg
theorem KR.setNew {w0 : World} (h : KR R w0 w) {b i : Nat} (hb : w0.heap.size ≤ b) (hR : R ≠ b) (v : Value) : KR R w0 (w.setCell ⟨b, i, none⟩ v) := by
  have hk : ∀ k, k ≠ b → (w.setCell ⟨b, i, none⟩ v).heap[k]? = w.heap[k]? := fun k hk => Below.heap_setCell _ _ _ _ hk
  have e : ∀ j, rowAt (w.setCell ⟨b, i, none⟩ v) R j = rowAt w R j := fun j => rowAt_same (hk R hR)
  exact ⟨h.os, h.tape, h.output, by simpa using h.size, fun k hk' hR' h3 h4 h5 => (hk k (by omega)).trans (h.block k hk' hR' h3 h4 h5), by rw [e]; exact h.row3, by rw [e]; exact h.row4, by rw [e]; exact h.row5⟩
theorem KR.allocR {w0 : World} (h : KR R w0 w) (hR : R < w.heap.size) (o : Obj) : KR R w0 (w.alloc o) := h.trans (.of_below ((Below.refl _ _).alloc (Nat.le_refl _) o) hR)
end
end Go.Proofs.YtaghcjpoihkpjaaGreatDoor
