/-
  THE REFERENCE's Missing AND THE LAW's names, WALKED.
-/
import Derived.Test.YtaghcjpoihkpjaaGreatDoorJM28
import Derived.Test.YtaghcjpoihkpjaaGreatDoorJM45
import Derived.Test.YtaghcjpoihkpjaaGreatDoorJM14
import Derived.Test.YtaghcjpoihkpjaaGreatDoorJM46
import Derived.Test.YtaghcjpoihkpjaaGreatDoorJM29
import Derived.Test.YtaghcjpoihkpjaaGreatDoorJM40
import Derived.Test.YtaghcjpoihkpjaaGreatDoorJM43
import Derived.Test.YtaghcjpoihkpjaaGreatDoorJM4
import Derived.Test.YtaghcjpoihkpjaaGreatDoorJM44
import Derived.Test.YtaghcjpoihkpjaaGreatDoorJM11
namespace Go.Proofs.YtaghcjpoihkpjaaGreatDoor
open Go.RowKit Go.Lib

/-- Is a name in a list? -/
def inL (hl : List ByteArray) (s : ByteArray) : Bool := hl.any fun x => x.toList == s.toList
def missL (hl : List ByteArray) (qs : List (Nat × ByteArray)) : Option (Nat × ByteArray) := qs.find? fun q => !inL hl q.2
theorem missL_append (hl : List ByteArray) (a b : List (Nat × ByteArray)) : missL hl (a ++ b) = (missL hl a).or (missL hl b) := by simp [missL, List.find?_append]
theorem asksAll_take {ts : List Tree} {k : Nat} {t : Tree} (h : ts[k]? = some t) : asksAll (ts.take (k + 1)) = asksAll (ts.take k) ++ asks t := by
  rw [List.take_add_one, h]
  have : ∀ a b, asksAll (a ++ b) = asksAll a ++ asksAll b := by
    intro a b
    induction a with
    | nil => simp [asksAll]
    | cons x a ih => simp [asksAll, ih]
  rw [this]
  simp [asksAll]
theorem asksAll_split (ts : List Tree) (k : Nat) : asksAll ts = asksAll (ts.take k) ++ asksAll (ts.drop k) := by
  have : ∀ a b, asksAll (a ++ b) = asksAll a ++ asksAll b := by
    intro a b
    induction a with
    | nil => simp [asksAll]
    | cons x a ih => simp [asksAll, ih]
  rw [← this, List.take_append_drop]
end Go.Proofs.YtaghcjpoihkpjaaGreatDoor
namespace Go.Proofs.YtaghcjpoihkpjaaGreatDoor
open Go.RowKit Go.Lib

theorem pnames_length (h : Int) : ∀ k, (pnames h k).length ≤ k
  | 0 => by simp [pnames]
  | k + 1 => by
    have := pnames_length h k
    unfold pnames
    split
    · simp; omega
    · omega
/-- clear of a row of bytes of the call's own: nothing else is turned. -/
theorem run_clear8 {B : Nat} {w : World} {v : Value} {l : List UInt8} (ho : Out8 B w v l) (ty : TypeId) : ∃ w', (Builtin.clear_ #[32] ty #[v]).run Tryz.prog w = .ok (.tuple #[]) w' ∧ w.grownBy w' v.ownBlock := by
  obtain ⟨i0, hi, hz0, hz1, hz2⟩ := info_parts Tryz.infoByte
  rcases ho.2 with ⟨rfl, h1⟩ | ⟨g, cap, cur, rfl, hbg, hg, hnc, hcm, hcs, htake⟩
  · refine ⟨w, ?_, ⟨rfl, rfl, rfl, Nat.le_refl _, fun _ _ _ => rfl⟩⟩
    simp [Builtin.clear_, run_underlying Tryz.underlying32, Result.andThen]
  · cases hn : l.length with
    | zero =>
      refine ⟨w, ?_, ⟨rfl, rfl, rfl, Nat.le_refl _, fun _ _ _ => rfl⟩⟩
      simp [Builtin.clear_, run_underlying Tryz.underlying32, Result.andThen]
    | succ n =>
      rw [hn] at hnc
      have hz : (zeroValue 5).run Tryz.prog w = .ok (.int .u8 0) w := by kernel_rfl
      obtain ⟨cs, hst⟩ : ∃ cs, (storeCells ⟨g, 0, none⟩ (Builtin.zeroCells (Value.int .u8 0).cells (n + 1)).toList).run Tryz.prog w = .ok () (w.setRow g cs) := ⟨_, run_storeCells_at (P := Tryz.prog) g 0 5 (Builtin.zeroCells (Value.int .u8 0).cells (n + 1)).toList 0 cur w hg (by simp [Builtin.zeroCells, Value.cells]; omega) (fun x hx => by
        simp [Builtin.zeroCells, Value.cells] at hx
        obtain ⟨-, -, rfl⟩ := hx
        rw [Nat.mod_one]
        rfl)⟩
      refine ⟨w.setRow g cs, ?_, ?_⟩
      · simp only [Builtin.clear_, run_underlying Tryz.underlying32, Sem.run_bind, Sem.run_pure, Result.andThen_ok, List.getElem?_toArray, List.getElem?_cons_zero, hz, hst]
      · refine ⟨rfl, rfl, rfl, by simp [World.setRow], fun k hk hne => ?_⟩
        have : g ≠ k := fun e => hne (by rw [e]; rfl)
        exact setRow_other w g k _ (fun e => this e.symm)
/-- clear at the operation. -/
theorem wpList_clear8 (w : World) {ops : Array Oper} {rest : List Oper} {o : Oper} {a : Act} {Q : Exit → Act → World → Prop} (hg : o.guard = none) (x : Operand) (hop : o.op = .call { callee := .builtin .clear, args := #[x], argTypes := #[32] })
    {B : Nat} {v : Value} {l : List UInt8} (hx : a.eval x = v) (ho : Out8 B w v l) (hK : ∀ w', w.grownBy w' v.ownBlock → wpList Tryz.prog ops Q rest (a.put o.dst (.tuple #[])) w') : wpList Tryz.prog ops Q (o :: rest) a w := by
  refine wpList_plain hg fun K hK' => ?_
  obtain ⟨w', hr, h2⟩ := run_clear8 ho o.type
  unfold Oper.wp execOp
  simp only [hop, resolve, invoke, builtin, Sem.run_bind, Sem.run_pure, Result.andThen_ok, List.map_toArray, List.map_cons, List.map_nil, hx, hr]
  exact hK' _ _ (hK w' h2)
end Go.Proofs.YtaghcjpoihkpjaaGreatDoor
namespace Go.Proofs.YtaghcjpoihkpjaaGreatDoor
open Go.RowKit Go.Lib

/-- What plain.Load answers. -/
def loadedV (err at_ : Nat) (name : ByteArray) (there same empty : Bool) (ms : Value) (right : Bool) : Value := .agg #[.int .i64 (err : Int), .int .i64 (at_ : Int), .int .i64 0, .string name, .bool there, .bool same, .bool empty, ms, .bool right]
/-- What it tells of a text. -/
def LTold (h n : Int) (w : World) (e : Ending) (t : Option Tree) : Prop :=
  match t with
  | none => e = .returned (loadedV 0 0 ⟨#[]⟩ false false false (.slice none 0 0) false)
  | some t => Fit t ∧ (mets t).length ≤ 300 ∧ Fine t ∧
      match missL (pnames h 4) (asks t) with
      | none => ∃ tv, e = .returned (loadedV 0 0 ⟨#[]⟩ true true false tv true) ∧ Txts w tv (firstN n (notes [] (mets t)))
      | some q => e = .returned (loadedV 3 q.1 q.2 false true false (.slice none 0 0) false)
theorem enc_ne (t : Tree) : enc t ≠ [] := by cases t <;> simp [enc]
theorem in_pnames {h : Int} {p : Option Addr} {lo : Nat} {w : World} {F : ByteArray → Option Value} (hp : PF h p lo w 4 F) (s : ByteArray) : thereP F s ↔ inL (pnames h 4) s = true := by
  have hin : inL (pnames h 4) s = true ↔ s ∈ pnames h 4 := by
    unfold inL
    rw [List.any_eq_true]
    constructor
    · rintro ⟨x, hx, e⟩
      have : x = s := by
        apply ByteArray.ext
        rw [toList_data, toList_data] at e
        exact Array.toList_inj.1 (eq_of_beq e)
      exact this ▸ hx
    · exact fun hs => ⟨s, hs, by simp⟩
  rw [hin]
  constructor
  · rintro ⟨f, x, y, e⟩
    rcases (hp.no s _ e).2 with q | q
    · exact q
    · cases q
  · intro hs
    obtain ⟨b1, b2, e, -⟩ := hp.yes s hs
    exact ⟨_, _, _, e⟩
theorem pnames_zero : pnames 0 4 = [] := by decide +kernel
theorem find_of {qs : List (Nat × ByteArray)} {hl : List ByteArray} {F : ByteArray → Option Value} (hF : ∀ s, thereP F s ↔ inL hl s = true) : (∀ q ∈ qs, thereP F q.2) → missL hl qs = none := by
  intro h
  unfold missL
  rw [List.find?_eq_none]
  intro q hq
  simp [(hF q.2).1 (h q hq)]
theorem find_at {qs : List (Nat × ByteArray)} {hl : List ByteArray} {F : ByteArray → Option Value} (hF : ∀ s, thereP F s ↔ inL hl s = true) {i : Nat} {q : Nat × ByteArray} (hq : qs[i]? = some q) (h1 : ∀ q ∈ qs.take i, thereP F q.2) (h2 : ¬ thereP F q.2) : missL hl qs = some q := by
  have hs : qs = qs.take i ++ q :: qs.drop (i + 1) := by
    have hlt := (List.getElem?_eq_some_iff.1 hq).1
    have e := (List.getElem?_eq_some_iff.1 hq).2
    rw [← e, List.getElem_cons_drop, List.take_append_drop]
  have hn : inL hl q.2 = false := by
    cases e : inL hl q.2 with
    | true => exact absurd ((hF _).2 e) h2
    | false => rfl
  rw [hs, missL_append, find_of hF h1]
  simp [missL, hn]
/-- A map, or none, that is spoilt. -/
theorem probes_is {h : Int} {w w' : World} {e : Ending} (hr : Below w.heap.size w w' ∧ ((h = 0 ∧ e = .returned (.map none)) ∨ (h ≠ 0 ∧ e = .returned (.map (some w.heap.size)) ∧ PM h none w w' 4))) : ∃ pv F, e = .returned pv ∧ ProbesIs w' pv F ∧ (∀ s, thereP F s ↔ inL (pnames h 4) s = true) ∧ (pv = .map none ∨ (pv = .map (some w.heap.size) ∧ MapF w' w.heap.size F)) := by
  obtain ⟨hb, ⟨rfl, rfl⟩ | ⟨h0, rfl, hpm⟩⟩ := hr
  · exact ⟨_, fun _ => none, rfl, ⟨.inl ⟨rfl, fun _ => rfl⟩, fun s v q => by cases q⟩, fun s => by rw [pnames_zero]; exact ⟨fun ⟨_, _, _, q⟩ => (by cases q), fun q => (by simp [inL] at q)⟩, .inl rfl⟩
  · obtain ⟨F, hF, hPF⟩ := hpm.map
    refine ⟨_, F, rfl, ⟨.inr ⟨_, rfl, hF⟩, fun s v q => ?_⟩, in_pnames hPF, .inr ⟨rfl, hF⟩⟩
    rcases (hPF.no s v q).2 with q2 | q2
    · obtain ⟨b1, b2, e, -⟩ := hPF.yes s q2
      rw [q] at e
      injection e with e
      exact .inr ⟨_, _, _, e⟩
    · exact .inl q2
/-- A range over a map, or over none, that overwrites each value. -/
def Spo (pv : Value) (w : World) (r : Nat) (left : Nat) : Prop := (pv = .map none ∧ w.heap[r]? = some (.mapIter none 0 #[] 0)) ∨ ∃ m, pv = .map (some m) ∧ m ≠ r ∧ Ranges w m r left
/-- What it leaves alone. -/
structure SpoK (pv : Value) (r : Nat) (w w' : World) : Prop where
  os : w'.os = w.os
  tape : w'.tape = w.tape
  output : w'.output = w.output
  size : w'.heap.size = w.heap.size
  block : ∀ k, pv ≠ .map (some k) → k ≠ r → w'.heap[k]? = w.heap[k]?
theorem SpoK.refl (pv : Value) (r : Nat) (w : World) : SpoK pv r w w := ⟨rfl, rfl, rfl, rfl, fun _ _ _ => rfl⟩
theorem SpoK.trans {pv : Value} {r : Nat} {w w1 w2 : World} (h1 : SpoK pv r w w1) (h2 : SpoK pv r w1 w2) : SpoK pv r w w2 := ⟨h2.os.trans h1.os, h2.tape.trans h1.tape, h2.output.trans h1.output, h2.size.trans h1.size, fun k a b => (h2.block k a b).trans (h1.block k a b)⟩
def leftS (pv : Value) (w : World) (r : Nat) : Nat :=
  match pv with
  | .map (some m) => match w.heap[m]?, w.heap[r]? with
    | some (.map es _), some (.mapIter _ _ seen _) => ((es.toList.map (·.born)).filter fun b => !seen.contains b).length
    | _, _ => 0
  | _ => 0
theorem Ranges.leftS {w : World} {m r left : Nat} (h : Ranges w m r left) : Go.Proofs.YtaghcjpoihkpjaaGreatDoor.leftS (.map (some m)) w r = left := by
  obtain ⟨es, clock, seen, h1, h2, -, -, h5⟩ := h
  unfold Go.Proofs.YtaghcjpoihkpjaaGreatDoor.leftS
  simp only [h1, h2]
  exact h5
theorem Spo.next {pv : Value} {w : World} {r left : Nat} (h : Spo pv w r left) : (∀ ty, (Instr.next (.pointer (some ⟨r, 0, none⟩)) false ty).run Tryz.prog w = .ok (.tuple #[.bool false]) w) ∨
    ∃ (s : ByteArray) (v : Value) (w1 w2 : World), (∀ ty, (Instr.next (.pointer (some ⟨r, 0, none⟩)) false ty).run Tryz.prog w = .ok (.tuple #[.bool true, .string s, v]) w1) ∧ ((Instr.entry (.pointer (some ⟨r, 0, none⟩))).run Tryz.prog w1 = .ok (.tuple #[.string s, v]) w1) ∧
      ((Instr.mapUpdate 57 pv (.string s) .nilFunc).run Tryz.prog w1 = .ok () w2) ∧ Spo pv w2 r (left - 1) ∧ SpoK pv r w w2 ∧ leftS pv w2 r < leftS pv w r := by
  rcases h with ⟨rfl, h1⟩ | ⟨m, rfl, hm, h1⟩
  · exact .inl (next_none h1)
  · rcases h1.next hm with h2 | ⟨s, v, w1, w2, hl, h2, h3, h4, h5, h6, h7, h8, h9, h10⟩
    · exact .inl h2
    · refine .inr ⟨s, v, w1, w2, h2, h3, h4, .inr ⟨m, rfl, hm, h5⟩, ⟨h6, h7, h8, h9, fun k a b => h10 k (fun e => a (by rw [e])) b⟩, ?_⟩
      rw [h5.leftS, h1.leftS]
      omega
theorem Spo.begin {pv : Value} {w : World} (h : pv = .map none ∨ ∃ m F, pv = .map (some m) ∧ MapF w m F) : ∃ left o, (Instr.range 57 pv).run Tryz.prog w = .ok (.pointer (some ⟨w.heap.size, 0, none⟩)) (w.alloc o) ∧ Spo pv (w.alloc o) w.heap.size left := by
  rcases h with rfl | ⟨m, F, rfl, h1⟩
  · exact ⟨0, _, range_none w, .inl ⟨rfl, heap_alloc_new _ _⟩⟩
  · obtain ⟨left, o, h2, h3⟩ := Ranges.begin h1
    exact ⟨left, o, h2, .inr ⟨m, rfl, Nat.ne_of_lt h1.lt, h3⟩⟩
theorem Out8.own {B : Nat} {w : World} {v : Value} {l : List UInt8} (h : Out8 B w v l) {k : Nat} (e : v.ownBlock = some k) : B ≤ k ∧ ∃ cur, w.heap[k]? = some (.cells cur 5 (0, 0)) := by
  rcases h.2 with ⟨rfl, h1⟩ | ⟨g, cap, cur, rfl, hbg, hg, -⟩
  · cases e
  · injection e with e
    have e : g = k := e
    subst e
    exact ⟨hbg, cur, hg⟩
theorem ProgB.above {lo b : Nat} {w w' : World} {t : Tree} {ms : List ByteArray} {qs : List (Nat × ByteArray)} {sp : List (ByteArray × Int)} {F : ByteArray → Option Value} (h : ProgB lo w b t ms qs sp F) (hs : w.heap.size ≤ w'.heap.size) (hb : ∀ k, lo ≤ k → k < w.heap.size → w'.heap[k]? = w.heap[k]?) : ProgB lo w' b t ms qs sp F := by
  obtain ⟨⟨lb, g, G, h1, ⟨⟨vv, mv, sv, av, k1, k2, k3, k4, k5, k7⟩, k6⟩, h3, h4, h5⟩, h6⟩ := h
  have hm : ∀ {c : Nat} {x : Obj}, lo ≤ c → w.heap[c]? = some x → w'.heap[c]? = some x := fun hc hx => (hb _ hc (heap_lt hx)).trans hx
  exact ⟨⟨lb, g, G, hm h6 h1, ⟨⟨vv, mv, sv, av, hm k6 k1, k2, k3.moves fun g hg => ⟨⟨hg.1, Nat.lt_of_lt_of_le hg.2 hs⟩, hb g hg.1 hg.2⟩, owns_block2 k4 fun g hg => hb g (k4.lt _ hg).1 (k4.lt _ hg).2, owns_block2 k5 fun g hg => hb g (k5.lt _ hg).1 (k5.lt _ hg).2, owns_block2 k7 fun g hg => hb g (k7.lt _ hg).1 (k7.lt _ hg).2⟩, k6⟩, h3.block (hb g h4 h3.lt), h4, h5⟩, h6⟩
theorem asks_size : (∀ t : Tree, (asks t).length ≤ size t) ∧ ∀ ts : List Tree, (asksAll ts).length ≤ sizes ts := by
  refine ⟨fun t => ?_, fun ts => ?_⟩
  · exact go t
  · exact gos ts
where
  go : ∀ t : Tree, (asks t).length ≤ size t
    | .num .. => by simp [asks, size]
    | .neg _ a => by have := go a; simp [asks, size]; omega
    | .bin _ _ a b => by have := go a; have := go b; simp [asks, size]; omega
    | .ite _ a b c => by have := go a; have := go b; have := go c; simp [asks, size]; omega
    | .meas .. => by simp [asks, size]
    | .probe _ _ ts => by have := gos ts; simp [asks, size]; omega
  gos : ∀ ts : List Tree, (asksAll ts).length ≤ sizes ts
    | [] => by simp [asksAll, sizes]
    | t :: ts => by have := go t; have := gos ts; simp [asksAll, sizes]; omega
theorem Out8.keep {B : Nat} {w w' : World} {v : Value} {l : List UInt8} (h : Out8 B w v l) (hb : ∀ g, v.ownBlock = some g → g < w.heap.size → w'.heap[g]? = w.heap[g]?) : Out8 B w' v l := owns_block2 h fun g hg => hb g hg (World.ownsRow.lt h _ hg).2
theorem Out8.span {B : Nat} {w : World} {v : Value} {l : List UInt8} (h : Out8 B w v l) {g : Nat} (hg : v.ownBlock = some g) : B ≤ g ∧ g < w.heap.size := World.ownsRow.lt h _ hg
theorem block_at {w : World} {cs : Array Value} {T : TypeId} {n : Nat} (h : w.heap.size = n) : (w.alloc (.cells cs T)).heap[n]? = some (.cells cs T (0, 0)) := by subst h; exact block_new w cs T
/-- What the spoiling leaves alone. -/
theorem spoilt_block {w5 w6 wr : World} {pv : Value} {ob : Option Nat} {o : Obj} (g : w5.grownBy w6 ob) (hk : SpoK pv w6.heap.size (w6.alloc o) wr) {k : Nat} (lt : k < w5.heap.size) (h1 : ob ≠ some k) (h2 : pv ≠ .map (some k)) : wr.heap[k]? = w5.heap[k]? := by
  have l6 := g.size
  rw [hk.block k h2 (by omega), Below.heap_alloc w6 o k (by omega)]
  exact g.block k lt (fun e => h1 e.symm)
theorem spoilt_below {B : Nat} {w w5 w6 wr : World} {pv : Value} {ob : Option Nat} {o : Obj} (h : Below B w w5) (hB : B ≤ w5.heap.size) (g : w5.grownBy w6 ob) (hk : SpoK pv w6.heap.size (w6.alloc o) wr) (h1 : ∀ k, ob = some k → B ≤ k) (h2 : ∀ k, pv = .map (some k) → B ≤ k) : Below B w wr :=
  ⟨hk.os.trans (g.os.trans h.os), hk.tape.trans (g.tape.trans h.tape), hk.output.trans (g.output.trans h.output), by
    have a := h.size
    have b := g.size
    have c := hk.size
    simp at c
    omega, fun k lt => (spoilt_block g hk (by omega) (fun e => by have := h1 k e; omega) (fun e => by have := h2 k e; omega)).trans (h.block k lt)⟩
/-- What lies from a block on is as it was. -/
structure Up (lo : Nat) (w w' : World) : Prop where
  size : w.heap.size ≤ w'.heap.size
  block : ∀ k, lo ≤ k → k < w.heap.size → w'.heap[k]? = w.heap[k]?
theorem Up.below {lo : Nat} {w w1 w2 : World} (h : Up lo w w1) (hb : Below w1.heap.size w1 w2) : Up lo w w2 := ⟨Nat.le_trans h.size hb.size, fun k a b => (hb.block k (Nat.lt_of_lt_of_le b h.size)).trans (h.block k a b)⟩
theorem Up.setCell {lo : Nat} {w w1 : World} (h : Up lo w w1) {R i : Nat} (hR : R < lo) (v : Value) : Up lo w (w1.setCell ⟨R, i, none⟩ v) := ⟨by simp; exact h.size, fun k a b => (Below.heap_setCell w1 _ v k (by show k ≠ R; omega)).trans (h.block k a b)⟩
theorem ProgB.up {lo b : Nat} {w w' : World} {t : Tree} {ms : List ByteArray} {qs : List (Nat × ByteArray)} {sp : List (ByteArray × Int)} {F : ByteArray → Option Value} (h : ProgB lo w b t ms qs sp F) (hu : Up lo w w') : ProgB lo w' b t ms qs sp F := h.above hu.size hu.block
/-- What Load gave. -/
def GotB (lo : Nat) (w : World) (t : Tree) (F : ByteArray → Option Value) (gv ev : Value) : Prop :=
  ((∀ q ∈ asks t, thereP F q.2) ∧ ∃ b, gv = ptr b ∧ ev = .nilIface ∧ ProgB lo w b (bare t) (notes [] (mets t)) (asks t) (spansOf t) F) ∨
  (∃ i q b, (asks t)[i]? = some q ∧ (∀ q ∈ (asks t).take i, thereP F q.2) ∧ ¬ thereP F q.2 ∧ gv = .pointer none ∧ ev = .iface 108 (ptr b) ∧ w.heap[b]? = some (.cells #[.int .i64 (q.1 : Int), .string q.2] 110 (0, 0)))
theorem load_enc {A : Nat → Addr} {w : World} (hT : TabsR w) (hS : Sents A w) {v : Value} {t : Tree} (hf : Fit t) (hs : size t ≤ 200) (hl : RestAt w.heap.size w v (enc t)) {pv : Value} {F : ByteArray → Option Value} (hp : ProbesIs w pv F) :
    Calls Tryz.prog 16 #[v, pv] w fun e w' => Below w.heap.size w w' ∧ ∃ gv ev, e = .returned (.tuple #[gv, ev]) ∧ GotB w.heap.size w' t F gv ev := by
  have hr := readB_enc hf hs
  have hk : okB (enc t) := by unfold okB; rw [hr]; exact ⟨rfl, rfl⟩
  have := code_Load hT hS hl hp (by rw [hr]; have := asks_size.1 t; show (asks t).length ≤ 900; omega)
  rw [hr] at this
  refine this.mono ?_
  rintro e w' ⟨hb, ⟨-, h1, b, rfl, h2⟩ | ⟨-, i, q, b, h1, h2, h3, rfl, h4⟩ | ⟨h, -⟩⟩
  · exact ⟨hb, _, _, rfl, .inl ⟨h1, b, rfl, rfl, h2⟩⟩
  · exact ⟨hb, _, _, rfl, .inr ⟨i, q, b, h1, h2, h3, rfl, rfl, h4⟩⟩
  · exact absurd hk h
end Go.Proofs.YtaghcjpoihkpjaaGreatDoor
namespace Go.Proofs.YtaghcjpoihkpjaaGreatDoor
open Go.RowKit Go.Lib

/-- No time, no sample. -/
abbrev freshT : WT := fun _ _ => (-9223372036854775808, [])
/-- A controller's numbers when it begins. -/
abbrev ctl0 (min max step up down count : Int) : Ctl := ⟨min, max, step, up, down, -9223372036854775808, count, false, 0⟩
theorem possible_ok {min max step up down count : Int} (h : possibleL min max step up down = true) (h1 : min ≤ count) (h2 : count ≤ max) (hm : In64 max) (hs : In64 step) (hu : In64 up) (hd : In64 down) : (ctl0 min max step up down count).Ok := by
  unfold possibleL at h
  simp only [Bool.and_eq_true, decide_eq_true_eq] at h
  unfold In64 at hm hs hu hd
  refine ⟨h.1, ⟨h.2.1, hm.2⟩, ⟨h.2.2.1, hs.2⟩, ⟨h.2.2.2.1, hu.2⟩, ⟨h.2.2.2.2, hd.2⟩, ?_, ⟨h1, h2⟩, ?_⟩
  · show In64 (-9223372036854775808); unfold In64; omega
  · show In64 0; unfold In64; omega
theorem live_New {F : ByteArray → Option Value} {P : ByteArray → List Int → WT → PFound × WT} {A : Nat → Addr} {w0 wl w : World} {b lo : Nat} {ms : List ByteArray} {u : Tree} {sp : List (ByteArray × Int)} (hA : SentsX A w0) (hb0 : Below w0.heap.size w0 wl) (hp : ProgB lo wl b u ms (asks u) sp F) (hwl : Below wl.heap.size wl w) (hf : Fit u) (hsp : ∀ q ∈ spansOf u, q ∈ sp) (hsm : ∀ nm xs s, (P nm xs s).2 = s) (hpr : ∀ c, wl.heap.size ≤ c → ProbesOk F P wl lo c u sp) (h900 : sp.length ≤ 900) (h64 : ∀ q ∈ sp, In64 q.2)
    {min max step up down count : Int} (hm : In64 max) (hs : In64 step) (hu : In64 up) (hd : In64 down) (hyes : possibleL min max step up down = true) (h1 : min ≤ count) (h2 : count ≤ max) :
    Calls Tryz.prog 52 #[ptr b, .agg #[.int .i64 min, .int .i64 max, .int .i64 step, .int .i64 up, .int .i64 down], .int .i64 count] w fun e w' => ∃ c, e = .returned (.tuple #[ptr c, .nilIface]) ∧ Below w.heap.size w w' ∧ LiveP F P A w0 wl lo c (ctl0 min max step up down count) u sp freshT w' := by
  have hp0 := hp
  have hp := hp.above hwl.size fun k _ lt => hwl.block k lt
  obtain ⟨⟨lb, g, G, p1, ⟨⟨vv, mv, sv, av, k1, k2, k3, k4, k5, k7⟩, k6⟩, p3, p4, p5⟩, p6⟩ := hp
  refine (code_New_of p1 k1 hyes h1 h2 (fun W hW => code_there ((hW.block b (heap_lt p1)).trans p1)) (Q := fun W w3 => ∃ I st, Over W w3 sp I st) fun W hW => ?_).mono ?_
  · refine (code_over (w := W) rfl (owns_block2 k7 fun g hg => hW.block g (k7.lt _ hg).2) h900 h64).mono ?_
    rintro e w3 ⟨rfl, I, st, ho⟩
    exact ⟨rfl, ho.below, I, st, ho⟩
  · rintro e w' ⟨W, w3, hW, h3, ⟨I, st, ho⟩, rfl, rfl⟩
    have hw3 : Below w.heap.size w w3 := hW.trans (h3.mono hW.size)
    have hw' : Below w.heap.size w (w3.alloc (.cells #[ptr b, .int .i64 min, .int .i64 max, .int .i64 step, .int .i64 up, .int .i64 down, .map (some W.heap.size), .int .i64 (-9223372036854775808), .int .i64 count, .bool false, .int .i64 0] 121)) := hw3.alloc hw3.size _
    refine ⟨_, rfl, hw', ⟨hA, hb0.trans ((hwl.trans (hw'.mono hwl.size)).mono hb0.size), possible_ok hyes h1 h2 hm hs hu hd, hf, hsp, ⟨fun q hq => Int.le_refl _, fun q hq x hx => by cases hx⟩, ⟨hb0.size, Nat.le_trans hwl.size hw3.size⟩, hsm, hpr _ (Nat.le_trans hwl.size hw3.size), b, W.heap.size, ms, I, st, hp0, fun k l1 l2 => (hw'.block k (Nat.lt_of_lt_of_le l2 hwl.size)).trans (hwl.block k l2), fun k hk => ?_, heap_alloc_new _ _, ho.wins.moves fun k hk => Below.heap_alloc _ _ k ?_, fun q hq => ?_⟩⟩
    · obtain ⟨q, hq, hm⟩ := hk
      obtain ⟨-, n2, n3⟩ := ho.new q hq
      have := hW.size
      have := hwl.size
      rcases hm with hm | hm
      · omega
      · rw [n2] at hm
        cases hm
    · rcases hk with rfl | ⟨q, hq, rfl | hm⟩
      · obtain ⟨F', hF', -⟩ := ho.wins.outer
        exact hF'.lt
      · obtain ⟨F', hF', -⟩ := ho.wins.inner q hq
        exact hF'.lt
      · obtain ⟨cs, T', e, -⟩ := Win.mine_cells (ho.wins.win q hq) hm
        exact heap_lt e
    · rw [(ho.new q hq).2.1]
      exact ⟨rfl, rfl⟩
end Go.Proofs.YtaghcjpoihkpjaaGreatDoor
namespace Go.Proofs.YtaghcjpoihkpjaaGreatDoor
open Go.RowKit Go.Lib

/-- Are there such limits? -/
def okL (L : List Int) (count : Int) : Bool := possibleL (L.getD 0 0) (L.getD 1 0) (L.getD 2 0) (L.getD 3 0) (L.getD 4 0) && (decide (L.getD 0 0 ≤ count) && decide (count ≤ L.getD 1 0))
/-- The numbers of such a controller. -/
abbrev ctlL (L : List Int) (count : Int) : Ctl := ctl0 (L.getD 0 0) (L.getD 1 0) (L.getD 2 0) (L.getD 3 0) (L.getD 4 0) count
theorem getD_in {L : List Int} (h : ∀ v ∈ L, In64 v) (i : Nat) : In64 (L.getD i 0) := by
  rw [List.getD_eq_getElem?_getD]
  cases e : L[i]? with
  | none => show In64 0; unfold In64; omega
  | some v => exact h v (List.mem_of_getElem? e)
theorem plain_controller {A : Nat → Addr} {w0 w : World} {b lo : Nat} {ms : List ByteArray} {u : Tree} {sp : List (ByteArray × Int)} (hA : SentsX A w0) (hb0 : Below w0.heap.size w0 w) (hp : ProgB lo w b u ms (asks u) sp someF) (hf : Fit u) (hsp : ∀ q ∈ spansOf u, q ∈ sp) (hth : ∀ q ∈ asks u, thereP someF q.2) (h900 : sp.length ≤ 900) (h64 : ∀ q ∈ sp, In64 q.2)
    {ao : Option Addr} {cp : Nat} {L : List Int} {count : Int} (hL : NumsAt w ao L) (hl : ∀ v ∈ L, In64 v) :
    Calls Tryz.prog 40 #[ptr b, .slice ao L.length cp, .int .i64 count] w fun e w' => Below w.heap.size w w' ∧
      ((okL L count = false ∧ e = .returned (.tuple #[.pointer none, begV true false 5])) ∨ (okL L count = true ∧ ∃ x c, e = .returned (.tuple #[ptr x, begV true true 0]) ∧ w'.heap[x]? = some (.cells #[ptr c] 73 (0, 0)) ∧ Live A w0 w lo c (ctlL L count) u sp freshT w')) := by
  have hs : ∀ W, Below w.heap.size w W → SentsX A W := fun W hW => hA.below (hb0.trans (hW.mono hb0.size))
  cases hok : okL L count with
  | false =>
    obtain ⟨lb, g, G, p1, -⟩ := hp.blk
    have hno : possibleL (L.getD 0 0) (L.getD 1 0) (L.getD 2 0) (L.getD 3 0) (L.getD 4 0) = false ∨ count < L.getD 0 0 ∨ L.getD 1 0 < count := by
      unfold okL at hok
      simp only [Bool.and_eq_false_iff, decide_eq_false_iff_not] at hok
      rcases hok with h | h | h
      · exact .inl h
      · exact .inr (.inl (by omega))
      · exact .inr (.inr (by omega))
    refine (controller_no hL (fun W hW => code_New_no (hs W hW).sents ((hW.block b (heap_lt p1)).trans p1) hno) (fun W hW => of_limits (hs W hW))).mono ?_
    rintro e w' ⟨rfl, hb⟩
    exact ⟨hb, .inl ⟨rfl, rfl⟩⟩
  | true =>
    unfold okL at hok
    simp only [Bool.and_eq_true, decide_eq_true_eq] at hok
    refine (controller_yes hL (Q := fun c w3 => Below w.heap.size w w3 ∧ Live A w0 w lo c (ctlL L count) u sp freshT w3) (fun W hW => ?_) (fun W _ => of_nil W)).mono ?_
    · refine (live_New (P := probeT) hA hb0 hp hW hf hsp (fun _ _ _ => rfl) (fun c _ w1 k' pb m I st _ _ _ q hq => someX (fun _ _ _ h => h) _ _ (hth q hq)) h900 h64 (getD_in hl 1) (getD_in hl 2) (getD_in hl 3) (getD_in hl 4) hok.1 hok.2.1 hok.2.2).mono ?_
      rintro e w' ⟨c, rfl, hb, hlv⟩
      exact ⟨c, rfl, hb, hW.trans (hb.mono hW.size), hlv⟩
    · rintro e w' ⟨c, x, w3, w4, rfl, hb, ⟨hb3, hlv⟩, hb34, hr4, hk, hx4⟩
      have hne : x ≠ w.heap.size := fun e => by rw [e, hr4] at hx4; injection hx4 with e1; injection e1 with _ e1; exact absurd e1 (by decide)
      have hx := (hk.block x (heap_lt hx4) hne).trans hx4
      exact ⟨hb, .inr ⟨rfl, x, c, rfl, hx, (hlv.go hb34).set hr4 (by unfold Calm; decide) hb0.size (.inr (Nat.le_refl _)) hk.x⟩⟩
end Go.Proofs.YtaghcjpoihkpjaaGreatDoor
namespace Go.Proofs.YtaghcjpoihkpjaaGreatDoor
open Go.RowKit Go.Lib

/-- clear of a map: it is empty then, and nothing else is turned. -/
theorem run_clearM {w : World} {m : Nat} {F : ByteArray → Option Value} (h : MapF w m F) (ty : TypeId) : ∃ w', (Builtin.clear_ #[57] ty #[.map (some m)]).run Tryz.prog w = .ok (.tuple #[]) w' ∧ w.grownBy w' (some m) := by
  obtain ⟨es, clock, h1, -⟩ := h
  refine ⟨_, by simp [Builtin.clear_, run_underlying Tryz.underlying57, MapKept.run_getObj_map h1, MapKept.run_setObj_map _ h1, Result.andThen]; rfl, ?_⟩
  exact ⟨rfl, rfl, rfl, by simp, fun k hk hne => by
    have : m ≠ k := fun e => hne (by rw [e])
    simp [this]⟩
/-- clear at the operation. -/
theorem wpList_clearM (w : World) {ops : Array Oper} {rest : List Oper} {o : Oper} {a : Act} {Q : Exit → Act → World → Prop} (hg : o.guard = none) (x : Operand) (hop : o.op = .call { callee := .builtin .clear, args := #[x], argTypes := #[57] })
    {m : Nat} {F : ByteArray → Option Value} (hx : a.eval x = .map (some m)) (ho : MapF w m F) (hK : ∀ w', w.grownBy w' (some m) → wpList Tryz.prog ops Q rest (a.put o.dst (.tuple #[])) w') : wpList Tryz.prog ops Q (o :: rest) a w := by
  refine wpList_plain hg fun K hK' => ?_
  obtain ⟨w', hr, h2⟩ := run_clearM ho o.type
  unfold Oper.wp execOp
  simp only [hop, resolve, invoke, builtin, Sem.run_bind, Sem.run_pure, Result.andThen_ok, List.map_toArray, List.map_cons, List.map_nil, hx, hr]
  exact hK' _ _ (hK w' h2)
/-- A program whose probes write down in a world, or nowhere. -/
structure Asks (p : Option Addr) (lo : Nat) (w : World) (b : Nat) (t : Tree) : Prop where
  prog : ∃ lo2 F, lo ≤ lo2 ∧ ProgB lo2 w b (bare t) (notes [] (mets t)) (asks t) (spansOf t) F ∧
    ∀ q ∈ asks t, ∃ b1 b2, F q.2 = some (.func (.func 135) #[] #[ptr b1, ptr b2]) ∧ lo ≤ b1 ∧ lo ≤ b2 ∧ One w b1 (.pointer p) 159 ∧ One w b2 (.string q.2) 9
/-- What plain.program tells of a text. -/
def ProgT (p : Option Addr) (lo : Nat) (w : World) (e : Ending) : Option Tree → Prop
  | none => e = .returned (.pointer none)
  | some t => Fit t ∧ size t ≤ 200 ∧ match missL (pnames 15 4) (asks t) with
    | none => ∃ b, e = .returned (ptr b) ∧ Asks p lo w b t
    | some _ => e = .returned (.pointer none)
set_option maxRecDepth 1000000 in
set_option maxHeartbeats 4000000 in
theorem plain_program (s : ByteArray) (p : Option Addr) {A : Nat → Addr} {w : World} (hT : TabsR w) (hA : Sents A w) :
    Calls Tryz.prog 39 #[.string s, .pointer p] w fun e w' => ∃ (t : Option Tree) (f q : Nat), PRel s (t, f, q) ∧ Below w.heap.size w w' ∧ ProgT p w.heap.size w' e t := by
  have hp := code_Parse s w hT.tabs (A 0) hA.g0
  have HX : Hid _ := And.intro hT hA
  clear hT hA
  go_enter Tryz.func39, Tryz.ntmps39
  go_wp2_with fail
  refine hp.mono ?_
  rintro e w1 ⟨hb1, hc⟩
  have HB1 : Hid (Below w.heap.size w w1) := hb1
  clear hp hb1
  rcases hc with ⟨h1, rfl⟩ | ⟨h1, ⟨J, b, h2, rfl, h3⟩ | ⟨t, J, a, h2, h3, rfl, h4⟩⟩
  · have HP : Hid (PRel s (none, 1, 0)) := .inl ⟨h1, rfl⟩
    clear h1
    go_wp2
    go_ret
    exact ⟨none, 1, 0, HP.out, HB1.out, rfl⟩
  · have HP : Hid (PRel s (none, 2, pl (toks s) J)) := .inr ⟨h1, by
      rcases h2 with h2 | ⟨t, h2, h4⟩
      · exact .inl ⟨J, h2, rfl⟩
      · exact .inr (.inl ⟨t, J, h2, h4, rfl⟩)⟩
    clear h1 h2 h3
    go_wp2
    go_ret
    exact ⟨none, 2, _, HP.out, HB1.out, rfl⟩
  · have HP : Hid (PRel s (some t, 0, 0)) := .inr ⟨h1, .inr (.inr ⟨t, J, h2, h3, rfl⟩)⟩
    obtain ⟨hf, hsz⟩ := read_fits h1 h2 h3
    obtain ⟨pb, a', rfl, hpr⟩ := h4
    have h4 : CPol w.heap.size w1 t ⟨pb, 0, none⟩ := ⟨pb, a', rfl, hpr⟩
    have hps := plain_probes 15 p w1
    have HF : Hid _ := And.intro hf (And.intro hsz h4)
    clear h1 h2 h3 hf hsz hpr h4
    go_wp2_with fail
    refine hps.mono ?_
    rintro e w2 ⟨hb2, ⟨h0, -⟩ | ⟨-, rfl, hpm⟩⟩
    · exact absurd h0 (by decide)
    have HB2 : Hid (Below w1.heap.size w1 w2) := hb2
    obtain ⟨F, hF, hPF⟩ := hpm.map
    have HM : Hid _ := And.intro hF hPF
    have hc1 := code_Code HF.out.1 HF.out.2.1 (HF.out.2.2.below hb2)
    clear hps hb2 hpm hF hPF
    go_wp2_with fail
    refine hc1.mono ?_
    rintro e w3 ⟨c, rfl, ho3, hb3⟩
    have O3 : Hid _ := And.intro ho3 hb3
    obtain ⟨ca, cp, rfl⟩ := owns_len ho3
    have B03 : Hid (Below w.heap.size w w3) := (HB1.out.trans (HB2.out.mono HB1.out.size)).trans (hb3.mono (Nat.le_trans HB1.out.size HB2.out.size))
    have hld := load_enc (HX.out.1.below B03.out) (HX.out.2.below B03.out) HF.out.1 HF.out.2.1 ho3.rest (pv := .map (some w1.heap.size)) (F := F) ⟨.inr ⟨_, rfl, HM.out.1.block (hb3.block _ HM.out.1.lt)⟩, fun s v q => by
      rcases (HM.out.2.no s v q).2 with q2 | q2
      · obtain ⟨b1, b2, e, -⟩ := HM.out.2.yes s q2
        rw [q] at e
        injection e with e
        exact .inr ⟨_, _, _, e⟩
      · exact .inl q2⟩
    clear hc1 ho3 hb3
    go_wp2_with fail
    refine hld.mono ?_
    rintro e w4 ⟨hb4, gv, iv, rfl, hgot⟩
    have B34 : Hid (Below w3.heap.size w3 w4) := hb4
    have hm4 : MapF w4 w1.heap.size F := HM.out.1.block ((hb4.block _ (Nat.lt_of_lt_of_le HM.out.1.lt O3.out.2.size)).trans (O3.out.2.block _ HM.out.1.lt))
    clear hld hb4
    rcases hgot with ⟨hall, b, rfl, rfl, hpb⟩ | ⟨i, q, b, hq1, hq2, hq3, rfl, rfl, hq4⟩
    · have HG : Hid _ := And.intro hall hpb
      clear hall hpb
      go_wp2_with (first
          | (refine wpList_clearM _ rfl _ rfl rfl hm4 ?_; intro w5 hg5; have Q5 : Hid _ := hg5; clear hg5)
          | fail)
      go_ret
      have L1 := HM.out.1.lt
      have B45 : Below w.heap.size w w5 := ⟨Q5.out.os.trans (B34.out.os.trans B03.out.os), Q5.out.tape.trans (B34.out.tape.trans B03.out.tape), Q5.out.output.trans (B34.out.output.trans B03.out.output), Nat.le_trans (Nat.le_trans B03.out.size B34.out.size) Q5.out.size, fun k lt => (Q5.out.block k (by have := B03.out.size; have := B34.out.size; omega) (by have := HB1.out.size; intro e; injection e with e; omega)).trans ((B34.out.block k (by have := B03.out.size; omega)).trans (B03.out.block k lt))⟩
      refine ⟨some t, 0, 0, HP.out, B45, HF.out.1, HF.out.2.1, ?_⟩
      rw [find_of (in_pnames HM.out.2) HG.out.1]
      refine ⟨b, rfl, w3.heap.size, F, B03.out.size, HG.out.2.above Q5.out.size fun k lo lt => Q5.out.block k lt (by have := O3.out.2.size; intro e; injection e with e; omega), fun q hq => ?_⟩
      have hin := (in_pnames HM.out.2 q.2).1 (HG.out.1 q hq)
      obtain ⟨f, x, y, e⟩ := HG.out.1 q hq
      rcases (HM.out.2.no _ _ e).2 with q2 | q2
      · obtain ⟨b1, b2, e2, l1, l2, o1, o2⟩ := HM.out.2.yes _ q2
        have h3 := O3.out.2.size
        have step : ∀ {k : Nat} {cs : Array Value} {T : TypeId}, w2.heap[k]? = some (.cells cs T (0, 0)) → w5.heap[k]? = some (.cells cs T (0, 0)) := fun {k cs T} hk => by
          have lk := heap_lt hk
          have a3 := (O3.out.2.block k lk).trans hk
          have a4 := (B34.out.block k (by omega)).trans a3
          refine (Q5.out.block k (heap_lt a4) ?_).trans a4
          intro e
          injection e with e
          subst e
          obtain ⟨es, clock, hm, -⟩ := HM.out.1
          rw [hm] at hk
          cases hk
        exact ⟨b1, b2, e2, Nat.le_trans HB1.out.size l1, Nat.le_trans HB1.out.size l2, step o1, step o2⟩
      · cases q2
    · have HG : Hid _ := And.intro hq1 (And.intro hq2 hq3)
      clear hq1 hq2 hq3 hq4
      go_wp2_with (first
          | (refine wpList_clearM _ rfl _ rfl rfl hm4 ?_; intro w5 hg5; have Q5 : Hid _ := hg5; clear hg5)
          | fail)
      go_ret
      have B45 : Below w.heap.size w w5 := ⟨Q5.out.os.trans (B34.out.os.trans B03.out.os), Q5.out.tape.trans (B34.out.tape.trans B03.out.tape), Q5.out.output.trans (B34.out.output.trans B03.out.output), Nat.le_trans (Nat.le_trans B03.out.size B34.out.size) Q5.out.size, fun k lt => (Q5.out.block k (by have := B03.out.size; have := B34.out.size; omega) (by have := HB1.out.size; intro e; injection e with e; omega)).trans ((B34.out.block k (by have := B03.out.size; omega)).trans (B03.out.block k lt))⟩
      refine ⟨some t, 0, 0, HP.out, B45, HF.out.1, HF.out.2.1, ?_⟩
      rw [find_at (in_pnames HM.out.2) HG.out.1 HG.out.2.1 HG.out.2.2]
      rfl
end Go.Proofs.YtaghcjpoihkpjaaGreatDoor
