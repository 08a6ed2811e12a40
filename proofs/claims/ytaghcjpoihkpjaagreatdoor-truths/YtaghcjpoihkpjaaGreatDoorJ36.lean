/-
  THE REFERENCE's Missing AND THE LAW's names, WALKED.
-/
import Derived.Test.YtaghcjpoihkpjaaGreatDoorJ32
import Derived.Test.YtaghcjpoihkpjaaGreatDoorJ34
import Derived.Test.YtaghcjpoihkpjaaGreatDoorJ17
import Derived.Test.YtaghcjpoihkpjaaGreatDoorJ35
import Derived.Test.YtaghcjpoihkpjaaGreatDoorJ27
import Derived.Maps.RangeRun
import Derived.Test.YtaghcjpoihkpjaaGreatDoorJ33
namespace Go.Proofs.YtaghcjpoihkpjaaGreatDoor
open Go.RowKit Go.Lib

/-- Is a name in a list? -/
def inL (hl : List ByteArray) (s : ByteArray) : Bool := hl.any fun x => x.toList == s.toList
def missL (hl : List ByteArray) (qs : List (Nat × ByteArray)) : Option (Nat × ByteArray) := qs.find? fun q => !inL hl q.2
theorem missL_append (hl : List ByteArray) (a b : List (Nat × ByteArray)) : missL hl (a ++ b) = (missL hl a).or (missL hl b) := by simp [missL, List.find?_append]
theorem asksAll_take {ts : List Tree} {k : Nat} {t : Tree} (h : ts[k]? = some t) : asksAll (ts.take (k + 1)) = asksAll (ts.take k) ++ asks t := by
  rw [List.take_add_one, h]
  have : ∀ a b, asksAll (a ++ b) = asksAll a ++ asksAll b := by
    intro a b
    induction a with
    | nil => simp [asksAll]
    | cons x a ih => simp [asksAll, ih]
  rw [this]
  simp [asksAll]
theorem asksAll_split (ts : List Tree) (k : Nat) : asksAll ts = asksAll (ts.take k) ++ asksAll (ts.drop k) := by
  have : ∀ a b, asksAll (a ++ b) = asksAll a ++ asksAll b := by
    intro a b
    induction a with
    | nil => simp [asksAll]
    | cons x a ih => simp [asksAll, ih]
  rw [← this, List.take_append_drop]
end Go.Proofs.YtaghcjpoihkpjaaGreatDoor
namespace Go.Proofs.YtaghcjpoihkpjaaGreatDoor
open Go.RowKit Go.ChangeMaps

/-- The iterator r stands over the map m; so many entries are still to come. -/
def Ranges (w : World) (m r : Nat) (left : Nat) : Prop := ∃ es clock seen, w.heap[m]? = some (.map es clock) ∧ w.heap[r]? = some (.mapIter (some m) clock seen clock) ∧ (∀ e ∈ es.toList, ∃ s, e.key = .string s) ∧ MapKept.Stamped es clock ∧ ((es.toList.map (·.born)).filter fun b => !seen.contains b).length = left
theorem left_size (es : Array MapEntry) (seen : Array Nat) : (leftOf es seen).size = ((es.toList.map (·.born)).filter fun b => !seen.contains b).length := by
  unfold leftOf
  rw [← Array.length_toList, Array.toList_filter, List.filter_map, List.length_map]
  rfl
theorem set_same {w : World} {b : Nat} {o x : Obj} (h : w.heap[b]? = some x) : (setBlock w b o).heap[b]? = some o := by
  have := heap_lt h
  simp [setBlock, this]
theorem set_other {w : World} {b k : Nat} {o : Obj} (h : k ≠ b) : (setBlock w b o).heap[k]? = w.heap[k]? := by
  have : b ≠ k := fun e => h e.symm
  simp [setBlock, this]
theorem filter_lt {l : List Nat} {seen : Array Nat} {x : Nat} (hn : l.Nodup) (hx : x ∈ l) (hs : seen.contains x = false) : (l.filter fun b => !(seen.push x).contains b).length + 1 = (l.filter fun b => !seen.contains b).length := by
  induction l with
  | nil => simp at hx
  | cons a l ih =>
    rw [List.nodup_cons] at hn
    rcases List.mem_cons.1 hx with rfl | hx
    · have e : (l.filter fun b => !(seen.push x).contains b) = l.filter fun b => !seen.contains b := by
        apply List.filter_congr
        intro b hb
        have : b ≠ x := fun e => hn.1 (e ▸ hb)
        simp [this]
      simp only [List.filter_cons, hs, Bool.not_false, if_true]
      rw [if_neg (by simp), e]
      simp
    · have ih := ih hn.2 hx
      have hne : a ≠ x := fun e => hn.1 (e ▸ hx)
      have ea : (seen.push x).contains a = seen.contains a := by simp [hne]
      simp only [List.filter_cons, ea]
      split
      · simp only [List.length_cons]; omega
      · exact ih
section
variable {w : World} {m r left : Nat}
theorem Ranges.lt (h : Ranges w m r left) : m < w.heap.size ∧ r < w.heap.size := by obtain ⟨es, clock, seen, h1, h2, -⟩ := h; exact ⟨heap_lt h1, heap_lt h2⟩
/-- A step: nothing is left, or an entry comes, and its value may be overwritten. -/
theorem Ranges.next (h : Ranges w m r left) (hmr : m ≠ r) : (∀ ty, (Instr.next (.pointer (some ⟨r, 0, none⟩)) false ty).run Tryz.prog w = .ok (.tuple #[.bool false]) w) ∨
    ∃ (s : ByteArray) (v : Value) (w1 w2 : World), 0 < left ∧ (∀ ty, (Instr.next (.pointer (some ⟨r, 0, none⟩)) false ty).run Tryz.prog w = .ok (.tuple #[.bool true, .string s, v]) w1) ∧ ((Instr.entry (.pointer (some ⟨r, 0, none⟩))).run Tryz.prog w1 = .ok (.tuple #[.string s, v]) w1) ∧
      ((Instr.mapUpdate 57 (.map (some m)) (.string s) .nilFunc).run Tryz.prog w1 = .ok () w2) ∧ Ranges w2 m r (left - 1) ∧ w2.os = w.os ∧ w2.tape = w.tape ∧ w2.output = w.output ∧ w2.heap.size = w.heap.size ∧ ∀ k, k ≠ m → k ≠ r → w2.heap[k]? = w.heap[k]? := by
  obtain ⟨es, clock, seen, h1, h2, h3, h4, h5⟩ := h
  rcases run_next_at (P := Tryz.prog) w 0 r m clock clock seen es clock h2 h1 h4.1 (Nat.le_refl _) with ⟨-, hr⟩ | ⟨e, he, w1, hw1, hr⟩
  · exact .inl fun ty => hr
  · refine .inr ?_
    obtain ⟨s, hs⟩ := h3 e (by unfold leftOf at he; simp at he ⊢; exact he.1)
    have hem : e ∈ es.toList := by unfold leftOf at he; simp at he ⊢; exact he.1
    have hns : seen.contains e.born = false := by unfold leftOf at he; simp at he ⊢; exact he.2
    have a1 : w1.heap[m]? = some (.map es clock) := by rcases hw1 with rfl | rfl <;> exact h1
    have a2 : w1.heap[r]? = some (.mapIter (some m) clock seen clock) := by rcases hw1 with rfl | rfl <;> exact h2
    have b1 : (setBlock w1 r (.mapIter (some m) clock (seen.push e.born) clock)).heap[m]? = some (.map es clock) := (set_other hmr).trans a1
    have b2 : (setBlock w1 r (.mapIter (some m) clock (seen.push e.born) clock)).heap[r]? = some (.mapIter (some m) clock (seen.push e.born) clock) := set_same a2
    obtain ⟨j, hj⟩ := List.getElem?_of_mem hem
    have hjs : es[j]? = some e := by simpa using hj
    have hc : ∀ b W, (Instr.checkKey b 10000 9 (.string s)).run Tryz.prog W = .ok () W := fun b W => MapKept.run_checkKey (k := .string s) Tryz.underlying9 (by simp [MapKept.IsKey]) b 9999
    obtain ⟨j2, e2, q1, q2, q3⟩ : ∃ j2 e2, Instr.findNow .string (.string s) es.toList 0 = some (some (j2, e2.val)) ∧ es.toList[j2]? = some e2 ∧ e2.key = .string s := by
      rcases MapKept.findNow_spec (d := .string) (k := .string s) (by simp [MapKept.IsKey]) es.toList 0 (fun x hx => by obtain ⟨t, e⟩ := h3 x hx; rw [e]; simp [MapKept.IsKey]) with ⟨q1, q2⟩ | ⟨j2, e2, q1, q2, q3⟩
      · exact absurd hs (q2 e hem)
      · exact ⟨j2, e2, by simpa using q1, q2, q3⟩
    have hj2 : es[j2]? = some e2 := by simpa using q2
    have hsb : Instr.sameBits 10000 (.string s) (.string s) = true := by
      unfold Instr.sameBits
      exact (MapKept.bytes_beq s s).2 rfl
    have hkt : ∀ W, (Instr.keyThatStays (((es[j2]?).map (·.key)).getD (.string s)) (.string s)).run Tryz.prog W = .ok (.string s) W := fun W => by
      rw [hj2]
      simp [Instr.keyThatStays, q3, hsb]
    refine ⟨s, e.val, _, setBlock (setBlock w1 r (.mapIter (some m) clock (seen.push e.born) clock)) m (.map (es.modify j2 fun x => { x with key := .string s, val := .nilFunc }) clock), ?_, fun ty => by rw [← hs]; exact hr, ?_, ?_, ⟨_, clock, seen.push e.born, set_same b1, (set_other (fun q => hmr q.symm)).trans b2, ?_, ?_, ?_⟩, ?_⟩
    · have := filter_lt h4.2.1 (List.mem_map.2 ⟨e, hem, rfl⟩) hns
      omega
    · rw [← hs]
      exact run_entry_at _ r m clock seen es clock e b2 b1 hem h4.2.1
    · simp [Instr.mapUpdate, run_underlying Tryz.underlying57, MapKept.run_getObj_map b1, hc, MapKept.run_findKey Tryz.underlying9 q1, MapKept.run_setObj_map _ b1, Result.andThen, hkt]
      rfl
    · intro x hx
      obtain ⟨k, hk⟩ := List.getElem?_of_mem hx
      rw [Array.toList_modify, List.getElem?_modify] at hk
      split at hk
      · cases hq : es.toList[k]? with
        | none => rw [hq] at hk; cases hk
        | some y => rw [hq] at hk; injection hk with hk; exact ⟨s, by rw [← hk]⟩
      · exact h3 x (List.mem_of_getElem? (by simpa using hk))
    · exact MapKept.stamped_modify h4 j2 _ (fun _ _ => rfl) (fun x _ hx => by rw [hj2] at hx; injection hx with hx; subst hx; exact q3.symm)
    · have hborn : (es.modify j2 fun x => { x with key := .string s, val := .nilFunc }).toList.map (·.born) = es.toList.map (·.born) := by
        apply List.ext_getElem?
        intro k
        rw [List.getElem?_map, List.getElem?_map, Array.toList_modify, List.getElem?_modify]
        split
        · cases es.toList[k]? <;> rfl
        · simp
      rw [hborn]
      have := filter_lt h4.2.1 (List.mem_map.2 ⟨e, hem, rfl⟩) hns
      omega
    · have hdr : w1.os = w.os ∧ w1.tape = w.tape ∧ w1.output = w.output ∧ w1.heap = w.heap := by rcases hw1 with rfl | rfl <;> exact ⟨rfl, rfl, rfl, rfl⟩
      refine ⟨hdr.1, hdr.2.1, hdr.2.2.1, by simp [setBlock, hdr.2.2.2], fun k hm hr => ?_⟩
      rw [set_other hm, set_other hr, hdr.2.2.2]
end
theorem Ranges.begin {w : World} {m : Nat} {F : ByteArray → Option Value} (h : MapF w m F) : ∃ left o, (Instr.range 57 (.map (some m))).run Tryz.prog w = .ok (.pointer (some ⟨w.heap.size, 0, none⟩)) (w.alloc o) ∧ Ranges (w.alloc o) m w.heap.size left := by
  obtain ⟨es, clock, h1, h2, h3, h4⟩ := h
  refine ⟨_, .mapIter (some m) clock #[] clock, ?_, ⟨es, clock, #[], heap_alloc_old h1, heap_alloc_new _ _, h2, h3, rfl⟩⟩
  simp [Instr.range, run_underlying Tryz.underlying57, MapKept.run_getObj_map h1, Result.andThen]
theorem range_none (w : World) : (Instr.range 57 (.map none)).run Tryz.prog w = .ok (.pointer (some ⟨w.heap.size, 0, none⟩)) (w.alloc (.mapIter none 0 #[] 0)) := by
  simp [Instr.range, run_underlying Tryz.underlying57, Result.andThen]
theorem next_none {w : World} {r : Nat} (h : w.heap[r]? = some (.mapIter none 0 #[] 0)) (ty : TypeId) : (Instr.next (.pointer (some ⟨r, 0, none⟩)) false ty).run Tryz.prog w = .ok (.tuple #[.bool false]) w := by
  simp [Instr.next, getObj, Sem.run, h, Result.andThen]
end Go.Proofs.YtaghcjpoihkpjaaGreatDoor
namespace Go.Proofs.YtaghcjpoihkpjaaGreatDoor
open Go.RowKit Go.Lib

theorem pnames_length (h : Int) : ∀ k, (pnames h k).length ≤ k
  | 0 => by simp [pnames]
  | k + 1 => by
    have := pnames_length h k
    unfold pnames
    split
    · simp; omega
    · omega
/-- clear of a row of bytes of the call's own: nothing else is turned. -/
theorem run_clear8 {B : Nat} {w : World} {v : Value} {l : List UInt8} (ho : Out8 B w v l) (ty : TypeId) : ∃ w', (Builtin.clear_ #[32] ty #[v]).run Tryz.prog w = .ok (.tuple #[]) w' ∧ w.grownBy w' v.ownBlock := by
  obtain ⟨i0, hi, hz0, hz1, hz2⟩ := info_parts Tryz.infoByte
  rcases ho.2 with ⟨rfl, h1⟩ | ⟨g, cap, cur, rfl, hbg, hg, hnc, hcm, hcs, htake⟩
  · refine ⟨w, ?_, ⟨rfl, rfl, rfl, Nat.le_refl _, fun _ _ _ => rfl⟩⟩
    simp [Builtin.clear_, run_underlying Tryz.underlying32, Result.andThen]
  · cases hn : l.length with
    | zero =>
      refine ⟨w, ?_, ⟨rfl, rfl, rfl, Nat.le_refl _, fun _ _ _ => rfl⟩⟩
      simp [Builtin.clear_, run_underlying Tryz.underlying32, Result.andThen]
    | succ n =>
      rw [hn] at hnc
      have hz : (zeroValue 5).run Tryz.prog w = .ok (.int .u8 0) w := by kernel_rfl
      obtain ⟨cs, hst⟩ : ∃ cs, (storeCells ⟨g, 0, none⟩ (Builtin.zeroCells (Value.int .u8 0).cells (n + 1)).toList).run Tryz.prog w = .ok () (w.setRow g cs) := ⟨_, run_storeCells_at (P := Tryz.prog) g 0 5 (Builtin.zeroCells (Value.int .u8 0).cells (n + 1)).toList 0 cur w hg (by simp [Builtin.zeroCells, Value.cells]; omega) (fun x hx => by
        simp [Builtin.zeroCells, Value.cells] at hx
        obtain ⟨-, -, rfl⟩ := hx
        rw [Nat.mod_one]
        rfl)⟩
      refine ⟨w.setRow g cs, ?_, ?_⟩
      · simp only [Builtin.clear_, run_underlying Tryz.underlying32, Sem.run_bind, Sem.run_pure, Result.andThen_ok, List.getElem?_toArray, List.getElem?_cons_zero, hz, hst]
      · refine ⟨rfl, rfl, rfl, by simp [World.setRow], fun k hk hne => ?_⟩
        have : g ≠ k := fun e => hne (by rw [e]; rfl)
        exact setRow_other w g k _ (fun e => this e.symm)
/-- clear at the operation. -/
theorem wpList_clear8 (w : World) {ops : Array Oper} {rest : List Oper} {o : Oper} {a : Act} {Q : Exit → Act → World → Prop} (hg : o.guard = none) (x : Operand) (hop : o.op = .call { callee := .builtin .clear, args := #[x], argTypes := #[32] })
    {B : Nat} {v : Value} {l : List UInt8} (hx : a.eval x = v) (ho : Out8 B w v l) (hK : ∀ w', w.grownBy w' v.ownBlock → wpList Tryz.prog ops Q rest (a.put o.dst (.tuple #[])) w') : wpList Tryz.prog ops Q (o :: rest) a w := by
  refine wpList_plain hg fun K hK' => ?_
  obtain ⟨w', hr, h2⟩ := run_clear8 ho o.type
  unfold Oper.wp execOp
  simp only [hop, resolve, invoke, builtin, Sem.run_bind, Sem.run_pure, Result.andThen_ok, List.map_toArray, List.map_cons, List.map_nil, hx, hr]
  exact hK' _ _ (hK w' h2)
end Go.Proofs.YtaghcjpoihkpjaaGreatDoor
namespace Go.Proofs.YtaghcjpoihkpjaaGreatDoor
open Go.RowKit Go.Lib

/-- What plain.Load answers. -/
def loadedV (err at_ : Nat) (name : ByteArray) (there same empty : Bool) (ms : Value) (right : Bool) : Value := .agg #[.int .i64 (err : Int), .int .i64 (at_ : Int), .int .i64 0, .string name, .bool there, .bool same, .bool empty, ms, .bool right]
/-- What it tells of a text. -/
def LTold (h n : Int) (w : World) (e : Ending) (t : Option Tree) : Prop :=
  match t with
  | none => e = .returned (loadedV 0 0 ⟨#[]⟩ false false false (.slice none 0 0) false)
  | some t => Fit t ∧ (mets t).length ≤ 300 ∧ Fine t ∧
      match missL (pnames h 4) (asks t) with
      | none => ∃ tv, e = .returned (loadedV 0 0 ⟨#[]⟩ true true false tv true) ∧ Txts w tv (firstN n (notes [] (mets t)))
      | some q => e = .returned (loadedV 3 q.1 q.2 false true false (.slice none 0 0) false)
theorem enc_ne (t : Tree) : enc t ≠ [] := by cases t <;> simp [enc]
theorem in_pnames {h : Int} {p : Option Addr} {lo : Nat} {w : World} {F : ByteArray → Option Value} (hp : PF h p lo w 4 F) (s : ByteArray) : thereP F s ↔ inL (pnames h 4) s = true := by
  have hin : inL (pnames h 4) s = true ↔ s ∈ pnames h 4 := by
    unfold inL
    rw [List.any_eq_true]
    constructor
    · rintro ⟨x, hx, e⟩
      have : x = s := by
        apply ByteArray.ext
        rw [toList_data, toList_data] at e
        exact Array.toList_inj.1 (eq_of_beq e)
      exact this ▸ hx
    · exact fun hs => ⟨s, hs, by simp⟩
  rw [hin]
  constructor
  · rintro ⟨f, x, y, e⟩
    rcases (hp.no s _ e).2 with q | q
    · exact q
    · cases q
  · intro hs
    obtain ⟨b1, b2, e, -⟩ := hp.yes s hs
    exact ⟨_, _, _, e⟩
theorem pnames_zero : pnames 0 4 = [] := by decide +kernel
theorem find_of {qs : List (Nat × ByteArray)} {hl : List ByteArray} {F : ByteArray → Option Value} (hF : ∀ s, thereP F s ↔ inL hl s = true) : (∀ q ∈ qs, thereP F q.2) → missL hl qs = none := by
  intro h
  unfold missL
  rw [List.find?_eq_none]
  intro q hq
  simp [(hF q.2).1 (h q hq)]
theorem find_at {qs : List (Nat × ByteArray)} {hl : List ByteArray} {F : ByteArray → Option Value} (hF : ∀ s, thereP F s ↔ inL hl s = true) {i : Nat} {q : Nat × ByteArray} (hq : qs[i]? = some q) (h1 : ∀ q ∈ qs.take i, thereP F q.2) (h2 : ¬ thereP F q.2) : missL hl qs = some q := by
  have hs : qs = qs.take i ++ q :: qs.drop (i + 1) := by
    have hlt := (List.getElem?_eq_some_iff.1 hq).1
    have e := (List.getElem?_eq_some_iff.1 hq).2
    rw [← e, List.getElem_cons_drop, List.take_append_drop]
  have hn : inL hl q.2 = false := by
    cases e : inL hl q.2 with
    | true => exact absurd ((hF _).2 e) h2
    | false => rfl
  rw [hs, missL_append, find_of hF h1]
  simp [missL, hn]
/-- A map, or none, that is spoilt. -/
theorem probes_is {h : Int} {w w' : World} {e : Ending} (hr : Below w.heap.size w w' ∧ ((h = 0 ∧ e = .returned (.map none)) ∨ (h ≠ 0 ∧ e = .returned (.map (some w.heap.size)) ∧ PM h none w w' 4))) : ∃ pv F, e = .returned pv ∧ ProbesIs w' pv F ∧ (∀ s, thereP F s ↔ inL (pnames h 4) s = true) ∧ (pv = .map none ∨ (pv = .map (some w.heap.size) ∧ MapF w' w.heap.size F)) := by
  obtain ⟨hb, ⟨rfl, rfl⟩ | ⟨h0, rfl, hpm⟩⟩ := hr
  · exact ⟨_, fun _ => none, rfl, ⟨.inl ⟨rfl, fun _ => rfl⟩, fun s v q => by cases q⟩, fun s => by rw [pnames_zero]; exact ⟨fun ⟨_, _, _, q⟩ => (by cases q), fun q => (by simp [inL] at q)⟩, .inl rfl⟩
  · obtain ⟨F, hF, hPF⟩ := hpm.map
    refine ⟨_, F, rfl, ⟨.inr ⟨_, rfl, hF⟩, fun s v q => ?_⟩, in_pnames hPF, .inr ⟨rfl, hF⟩⟩
    rcases (hPF.no s v q).2 with q2 | q2
    · obtain ⟨b1, b2, e, -⟩ := hPF.yes s q2
      rw [q] at e
      injection e with e
      exact .inr ⟨_, _, _, e⟩
    · exact .inl q2
/-- A range over a map, or over none, that overwrites each value. -/
def Spo (pv : Value) (w : World) (r : Nat) (left : Nat) : Prop := (pv = .map none ∧ w.heap[r]? = some (.mapIter none 0 #[] 0)) ∨ ∃ m, pv = .map (some m) ∧ m ≠ r ∧ Ranges w m r left
/-- What it leaves alone. -/
structure SpoK (pv : Value) (r : Nat) (w w' : World) : Prop where
  os : w'.os = w.os
  tape : w'.tape = w.tape
  output : w'.output = w.output
  size : w'.heap.size = w.heap.size
  block : ∀ k, pv ≠ .map (some k) → k ≠ r → w'.heap[k]? = w.heap[k]?
theorem SpoK.refl (pv : Value) (r : Nat) (w : World) : SpoK pv r w w := ⟨rfl, rfl, rfl, rfl, fun _ _ _ => rfl⟩
theorem SpoK.trans {pv : Value} {r : Nat} {w w1 w2 : World} (h1 : SpoK pv r w w1) (h2 : SpoK pv r w1 w2) : SpoK pv r w w2 := ⟨h2.os.trans h1.os, h2.tape.trans h1.tape, h2.output.trans h1.output, h2.size.trans h1.size, fun k a b => (h2.block k a b).trans (h1.block k a b)⟩
def leftS (pv : Value) (w : World) (r : Nat) : Nat :=
  match pv with
  | .map (some m) => match w.heap[m]?, w.heap[r]? with
    | some (.map es _), some (.mapIter _ _ seen _) => ((es.toList.map (·.born)).filter fun b => !seen.contains b).length
    | _, _ => 0
  | _ => 0
theorem Ranges.leftS {w : World} {m r left : Nat} (h : Ranges w m r left) : Go.Proofs.YtaghcjpoihkpjaaGreatDoor.leftS (.map (some m)) w r = left := by
  obtain ⟨es, clock, seen, h1, h2, -, -, h5⟩ := h
  unfold Go.Proofs.YtaghcjpoihkpjaaGreatDoor.leftS
  simp only [h1, h2]
  exact h5
theorem Spo.next {pv : Value} {w : World} {r left : Nat} (h : Spo pv w r left) : (∀ ty, (Instr.next (.pointer (some ⟨r, 0, none⟩)) false ty).run Tryz.prog w = .ok (.tuple #[.bool false]) w) ∨
    ∃ (s : ByteArray) (v : Value) (w1 w2 : World), (∀ ty, (Instr.next (.pointer (some ⟨r, 0, none⟩)) false ty).run Tryz.prog w = .ok (.tuple #[.bool true, .string s, v]) w1) ∧ ((Instr.entry (.pointer (some ⟨r, 0, none⟩))).run Tryz.prog w1 = .ok (.tuple #[.string s, v]) w1) ∧
      ((Instr.mapUpdate 57 pv (.string s) .nilFunc).run Tryz.prog w1 = .ok () w2) ∧ Spo pv w2 r (left - 1) ∧ SpoK pv r w w2 ∧ leftS pv w2 r < leftS pv w r := by
  rcases h with ⟨rfl, h1⟩ | ⟨m, rfl, hm, h1⟩
  · exact .inl (next_none h1)
  · rcases h1.next hm with h2 | ⟨s, v, w1, w2, hl, h2, h3, h4, h5, h6, h7, h8, h9, h10⟩
    · exact .inl h2
    · refine .inr ⟨s, v, w1, w2, h2, h3, h4, .inr ⟨m, rfl, hm, h5⟩, ⟨h6, h7, h8, h9, fun k a b => h10 k (fun e => a (by rw [e])) b⟩, ?_⟩
      rw [h5.leftS, h1.leftS]
      omega
theorem Spo.begin {pv : Value} {w : World} (h : pv = .map none ∨ ∃ m F, pv = .map (some m) ∧ MapF w m F) : ∃ left o, (Instr.range 57 pv).run Tryz.prog w = .ok (.pointer (some ⟨w.heap.size, 0, none⟩)) (w.alloc o) ∧ Spo pv (w.alloc o) w.heap.size left := by
  rcases h with rfl | ⟨m, F, rfl, h1⟩
  · exact ⟨0, _, range_none w, .inl ⟨rfl, heap_alloc_new _ _⟩⟩
  · obtain ⟨left, o, h2, h3⟩ := Ranges.begin h1
    exact ⟨left, o, h2, .inr ⟨m, rfl, Nat.ne_of_lt h1.lt, h3⟩⟩
theorem Out8.own {B : Nat} {w : World} {v : Value} {l : List UInt8} (h : Out8 B w v l) {k : Nat} (e : v.ownBlock = some k) : B ≤ k ∧ ∃ cur, w.heap[k]? = some (.cells cur 5 (0, 0)) := by
  rcases h.2 with ⟨rfl, h1⟩ | ⟨g, cap, cur, rfl, hbg, hg, -⟩
  · cases e
  · injection e with e
    have e : g = k := e
    subst e
    exact ⟨hbg, cur, hg⟩
theorem ProgB.above {lo b : Nat} {w w' : World} {t : Tree} {ms : List ByteArray} {qs : List (Nat × ByteArray)} {sp : List (ByteArray × Int)} {F : ByteArray → Option Value} (h : ProgB lo w b t ms qs sp F) (hs : w.heap.size ≤ w'.heap.size) (hb : ∀ k, lo ≤ k → k < w.heap.size → w'.heap[k]? = w.heap[k]?) : ProgB lo w' b t ms qs sp F := by
  obtain ⟨⟨lb, g, G, h1, ⟨⟨vv, mv, sv, av, k1, k2, k3, k4, k5, k7⟩, k6⟩, h3, h4, h5⟩, h6⟩ := h
  have hm : ∀ {c : Nat} {x : Obj}, lo ≤ c → w.heap[c]? = some x → w'.heap[c]? = some x := fun hc hx => (hb _ hc (heap_lt hx)).trans hx
  exact ⟨⟨lb, g, G, hm h6 h1, ⟨⟨vv, mv, sv, av, hm k6 k1, k2, k3.moves fun g hg => ⟨⟨hg.1, Nat.lt_of_lt_of_le hg.2 hs⟩, hb g hg.1 hg.2⟩, owns_block2 k4 fun g hg => hb g (k4.lt _ hg).1 (k4.lt _ hg).2, owns_block2 k5 fun g hg => hb g (k5.lt _ hg).1 (k5.lt _ hg).2, owns_block2 k7 fun g hg => hb g (k7.lt _ hg).1 (k7.lt _ hg).2⟩, k6⟩, h3.block (hb g h4 h3.lt), h4, h5⟩, h6⟩
theorem asks_size : (∀ t : Tree, (asks t).length ≤ size t) ∧ ∀ ts : List Tree, (asksAll ts).length ≤ sizes ts := by
  refine ⟨fun t => ?_, fun ts => ?_⟩
  · exact go t
  · exact gos ts
where
  go : ∀ t : Tree, (asks t).length ≤ size t
    | .num .. => by simp [asks, size]
    | .neg _ a => by have := go a; simp [asks, size]; omega
    | .bin _ _ a b => by have := go a; have := go b; simp [asks, size]; omega
    | .ite _ a b c => by have := go a; have := go b; have := go c; simp [asks, size]; omega
    | .meas .. => by simp [asks, size]
    | .probe _ _ ts => by have := gos ts; simp [asks, size]; omega
  gos : ∀ ts : List Tree, (asksAll ts).length ≤ sizes ts
    | [] => by simp [asksAll, sizes]
    | t :: ts => by have := go t; have := gos ts; simp [asksAll, sizes]; omega
theorem Out8.keep {B : Nat} {w w' : World} {v : Value} {l : List UInt8} (h : Out8 B w v l) (hb : ∀ g, v.ownBlock = some g → g < w.heap.size → w'.heap[g]? = w.heap[g]?) : Out8 B w' v l := owns_block2 h fun g hg => hb g hg (World.ownsRow.lt h _ hg).2
theorem Out8.span {B : Nat} {w : World} {v : Value} {l : List UInt8} (h : Out8 B w v l) {g : Nat} (hg : v.ownBlock = some g) : B ≤ g ∧ g < w.heap.size := World.ownsRow.lt h _ hg
theorem block_at {w : World} {cs : Array Value} {T : TypeId} {n : Nat} (h : w.heap.size = n) : (w.alloc (.cells cs T)).heap[n]? = some (.cells cs T (0, 0)) := by subst h; exact block_new w cs T
/-- What the spoiling leaves alone. -/
theorem spoilt_block {w5 w6 wr : World} {pv : Value} {ob : Option Nat} {o : Obj} (g : w5.grownBy w6 ob) (hk : SpoK pv w6.heap.size (w6.alloc o) wr) {k : Nat} (lt : k < w5.heap.size) (h1 : ob ≠ some k) (h2 : pv ≠ .map (some k)) : wr.heap[k]? = w5.heap[k]? := by
  have l6 := g.size
  rw [hk.block k h2 (by omega), Below.heap_alloc w6 o k (by omega)]
  exact g.block k lt (fun e => h1 e.symm)
theorem spoilt_below {B : Nat} {w w5 w6 wr : World} {pv : Value} {ob : Option Nat} {o : Obj} (h : Below B w w5) (hB : B ≤ w5.heap.size) (g : w5.grownBy w6 ob) (hk : SpoK pv w6.heap.size (w6.alloc o) wr) (h1 : ∀ k, ob = some k → B ≤ k) (h2 : ∀ k, pv = .map (some k) → B ≤ k) : Below B w wr :=
  ⟨hk.os.trans (g.os.trans h.os), hk.tape.trans (g.tape.trans h.tape), hk.output.trans (g.output.trans h.output), by
    have a := h.size
    have b := g.size
    have c := hk.size
    simp at c
    omega, fun k lt => (spoilt_block g hk (by omega) (fun e => by have := h1 k e; omega) (fun e => by have := h2 k e; omega)).trans (h.block k lt)⟩
/-- What lies from a block on is as it was. -/
structure Up (lo : Nat) (w w' : World) : Prop where
  size : w.heap.size ≤ w'.heap.size
  block : ∀ k, lo ≤ k → k < w.heap.size → w'.heap[k]? = w.heap[k]?
theorem Up.below {lo : Nat} {w w1 w2 : World} (h : Up lo w w1) (hb : Below w1.heap.size w1 w2) : Up lo w w2 := ⟨Nat.le_trans h.size hb.size, fun k a b => (hb.block k (Nat.lt_of_lt_of_le b h.size)).trans (h.block k a b)⟩
theorem Up.setCell {lo : Nat} {w w1 : World} (h : Up lo w w1) {R i : Nat} (hR : R < lo) (v : Value) : Up lo w (w1.setCell ⟨R, i, none⟩ v) := ⟨by simp; exact h.size, fun k a b => (Below.heap_setCell w1 _ v k (by show k ≠ R; omega)).trans (h.block k a b)⟩
theorem ProgB.up {lo b : Nat} {w w' : World} {t : Tree} {ms : List ByteArray} {qs : List (Nat × ByteArray)} {sp : List (ByteArray × Int)} {F : ByteArray → Option Value} (h : ProgB lo w b t ms qs sp F) (hu : Up lo w w') : ProgB lo w' b t ms qs sp F := h.above hu.size hu.block
/-- What Load gave. -/
def GotB (lo : Nat) (w : World) (t : Tree) (F : ByteArray → Option Value) (gv ev : Value) : Prop :=
  ((∀ q ∈ asks t, thereP F q.2) ∧ ∃ b, gv = ptr b ∧ ev = .nilIface ∧ ProgB lo w b (bare t) (notes [] (mets t)) (asks t) (spansOf t) F) ∨
  (∃ i q b, (asks t)[i]? = some q ∧ (∀ q ∈ (asks t).take i, thereP F q.2) ∧ ¬ thereP F q.2 ∧ gv = .pointer none ∧ ev = .iface 108 (ptr b) ∧ w.heap[b]? = some (.cells #[.int .i64 (q.1 : Int), .string q.2] 110 (0, 0)))
theorem load_enc {A : Nat → Addr} {w : World} (hT : TabsR w) (hS : Sents A w) {v : Value} {t : Tree} (hf : Fit t) (hs : size t ≤ 200) (hl : RestAt w.heap.size w v (enc t)) {pv : Value} {F : ByteArray → Option Value} (hp : ProbesIs w pv F) :
    Calls Tryz.prog 16 #[v, pv] w fun e w' => Below w.heap.size w w' ∧ ∃ gv ev, e = .returned (.tuple #[gv, ev]) ∧ GotB w.heap.size w' t F gv ev := by
  have hr := readB_enc hf hs
  have hk : okB (enc t) := by unfold okB; rw [hr]; exact ⟨rfl, rfl⟩
  have := code_Load hT hS hl hp (by rw [hr]; have := asks_size.1 t; show (asks t).length ≤ 900; omega)
  rw [hr] at this
  refine this.mono ?_
  rintro e w' ⟨hb, ⟨-, h1, b, rfl, h2⟩ | ⟨-, i, q, b, h1, h2, h3, rfl, h4⟩ | ⟨h, -⟩⟩
  · exact ⟨hb, _, _, rfl, .inl ⟨h1, b, rfl, rfl, h2⟩⟩
  · exact ⟨hb, _, _, rfl, .inr ⟨i, q, b, h1, h2, h3, rfl, rfl, h4⟩⟩
  · exact absurd hk h
end Go.Proofs.YtaghcjpoihkpjaaGreatDoor
