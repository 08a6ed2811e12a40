/-
  A MAP THAT IS RANGED OVER WHILE ITS ENTRIES ARE OVERWRITTEN: laws.
-/
import Derived.Test.YtihmgoahobbdkaaGreatDoorJC31
import Derived.Maps.RangeRun
namespace Go.Proofs.YtihmgoahobbdkaaGreatDoor
open Go.RowKit Go.ChangeMaps

/-- The iterator r stands over the map m; so many entries are still to come. -/
def Ranges (w : World) (m r : Nat) (left : Nat) : Prop := ∃ es clock seen, w.heap[m]? = some (.map es clock) ∧ w.heap[r]? = some (.mapIter (some m) clock seen clock) ∧ (∀ e ∈ es.toList, ∃ s, e.key = .string s) ∧ MapKept.Stamped es clock ∧ ((es.toList.map (·.born)).filter fun b => !seen.contains b).length = left
theorem left_size (es : Array MapEntry) (seen : Array Nat) : (leftOf es seen).size = ((es.toList.map (·.born)).filter fun b => !seen.contains b).length := by
  unfold leftOf
  rw [← Array.length_toList, Array.toList_filter, List.filter_map, List.length_map]
  rfl
theorem set_same {w : World} {b : Nat} {o x : Obj} (h : w.heap[b]? = some x) : (setBlock w b o).heap[b]? = some o := by
  have := heap_lt h
  simp [setBlock, this]
theorem set_other {w : World} {b k : Nat} {o : Obj} (h : k ≠ b) : (setBlock w b o).heap[k]? = w.heap[k]? := by
  have : b ≠ k := fun e => h e.symm
  simp [setBlock, this]
theorem filter_lt {l : List Nat} {seen : Array Nat} {x : Nat} (hn : l.Nodup) (hx : x ∈ l) (hs : seen.contains x = false) : (l.filter fun b => !(seen.push x).contains b).length + 1 = (l.filter fun b => !seen.contains b).length := by
  induction l with
  | nil => simp at hx
  | cons a l ih =>
    rw [List.nodup_cons] at hn
    rcases List.mem_cons.1 hx with rfl | hx
    · have e : (l.filter fun b => !(seen.push x).contains b) = l.filter fun b => !seen.contains b := by
        apply List.filter_congr
        intro b hb
        have : b ≠ x := fun e => hn.1 (e ▸ hb)
        simp [this]
      simp only [List.filter_cons, hs, Bool.not_false, if_true]
      rw [if_neg (by simp), e]
      simp
    · have ih := ih hn.2 hx
      have hne : a ≠ x := fun e => hn.1 (e ▸ hx)
      have ea : (seen.push x).contains a = seen.contains a := by simp [hne]
      simp only [List.filter_cons, ea]
      split
      · simp only [List.length_cons]; omega
      · exact ih
section
variable {w : World} {m r left : Nat}
theorem Ranges.lt (h : Ranges w m r left) : m < w.heap.size ∧ r < w.heap.size := by obtain ⟨es, clock, seen, h1, h2, -⟩ := h; exact ⟨heap_lt h1, heap_lt h2⟩
/-- A step: nothing is left, or an entry comes, and its value may be overwritten. -/
theorem Ranges.next (h : Ranges w m r left) (hmr : m ≠ r) : (∀ ty, (Instr.next (.pointer (some ⟨r, 0, none⟩)) false ty).run Tryz.prog w = .ok (.tuple #[.bool false]) w) ∨
    ∃ (s : ByteArray) (v : Value) (w1 w2 : World), 0 < left ∧ (∀ ty, (Instr.next (.pointer (some ⟨r, 0, none⟩)) false ty).run Tryz.prog w = .ok (.tuple #[.bool true, .string s, v]) w1) ∧ ((Instr.entry (.pointer (some ⟨r, 0, none⟩))).run Tryz.prog w1 = .ok (.tuple #[.string s, v]) w1) ∧
      ((Instr.mapUpdate 80 (.map (some m)) (.string s) .nilFunc).run Tryz.prog w1 = .ok () w2) ∧ Ranges w2 m r (left - 1) ∧ w2.os = w.os ∧ w2.tape = w.tape ∧ w2.output = w.output ∧ w2.heap.size = w.heap.size ∧ ∀ k, k ≠ m → k ≠ r → w2.heap[k]? = w.heap[k]? := by
  obtain ⟨es, clock, seen, h1, h2, h3, h4, h5⟩ := h
  rcases run_next_at (P := Tryz.prog) w 0 r m clock clock seen es clock h2 h1 h4.1 (Nat.le_refl _) with ⟨-, hr⟩ | ⟨e, he, w1, hw1, hr⟩
  · exact .inl fun ty => hr
  · refine .inr ?_
    obtain ⟨s, hs⟩ := h3 e (by unfold leftOf at he; simp at he ⊢; exact he.1)
    have hem : e ∈ es.toList := by unfold leftOf at he; simp at he ⊢; exact he.1
    have hns : seen.contains e.born = false := by unfold leftOf at he; simp at he ⊢; exact he.2
    have a1 : w1.heap[m]? = some (.map es clock) := by rcases hw1 with rfl | rfl <;> exact h1
    have a2 : w1.heap[r]? = some (.mapIter (some m) clock seen clock) := by rcases hw1 with rfl | rfl <;> exact h2
    have b1 : (setBlock w1 r (.mapIter (some m) clock (seen.push e.born) clock)).heap[m]? = some (.map es clock) := (set_other hmr).trans a1
    have b2 : (setBlock w1 r (.mapIter (some m) clock (seen.push e.born) clock)).heap[r]? = some (.mapIter (some m) clock (seen.push e.born) clock) := set_same a2
    obtain ⟨j, hj⟩ := List.getElem?_of_mem hem
    have hjs : es[j]? = some e := by simpa using hj
    have hc : ∀ b W, (Instr.checkKey b 10000 9 (.string s)).run Tryz.prog W = .ok () W := fun b W => MapKept.run_checkKey (k := .string s) Tryz.underlying9 (by simp [MapKept.IsKey]) b 9999
    obtain ⟨j2, e2, q1, q2, q3⟩ : ∃ j2 e2, Instr.findNow .string (.string s) es.toList 0 = some (some (j2, e2.val)) ∧ es.toList[j2]? = some e2 ∧ e2.key = .string s := by
      rcases MapKept.findNow_spec (d := .string) (k := .string s) (by simp [MapKept.IsKey]) es.toList 0 (fun x hx => by obtain ⟨t, e⟩ := h3 x hx; rw [e]; simp [MapKept.IsKey]) with ⟨q1, q2⟩ | ⟨j2, e2, q1, q2, q3⟩
      · exact absurd hs (q2 e hem)
      · exact ⟨j2, e2, by simpa using q1, q2, q3⟩
    have hj2 : es[j2]? = some e2 := by simpa using q2
    have hsb : Instr.sameBits 10000 (.string s) (.string s) = true := by
      unfold Instr.sameBits
      exact (MapKept.bytes_beq s s).2 rfl
    have hkt : ∀ W, (Instr.keyThatStays (((es[j2]?).map (·.key)).getD (.string s)) (.string s)).run Tryz.prog W = .ok (.string s) W := fun W => by
      rw [hj2]
      simp [Instr.keyThatStays, q3, hsb]
    refine ⟨s, e.val, _, setBlock (setBlock w1 r (.mapIter (some m) clock (seen.push e.born) clock)) m (.map (es.modify j2 fun x => { x with key := .string s, val := .nilFunc }) clock), ?_, fun ty => by rw [← hs]; exact hr, ?_, ?_, ⟨_, clock, seen.push e.born, set_same b1, (set_other (fun q => hmr q.symm)).trans b2, ?_, ?_, ?_⟩, ?_⟩
    · have := filter_lt h4.2.1 (List.mem_map.2 ⟨e, hem, rfl⟩) hns
      omega
    · rw [← hs]
      exact run_entry_at _ r m clock seen es clock e b2 b1 hem h4.2.1
    · simp [Instr.mapUpdate, run_underlying Tryz.underlying80, MapKept.run_getObj_map b1, hc, MapKept.run_findKey Tryz.underlying9 q1, MapKept.run_setObj_map _ b1, Result.andThen, hkt]
      rfl
    · intro x hx
      obtain ⟨k, hk⟩ := List.getElem?_of_mem hx
      rw [Array.toList_modify, List.getElem?_modify] at hk
      split at hk
      · cases hq : es.toList[k]? with
        | none => rw [hq] at hk; cases hk
        | some y => rw [hq] at hk; injection hk with hk; exact ⟨s, by rw [← hk]⟩
      · exact h3 x (List.mem_of_getElem? (by simpa using hk))
    · exact MapKept.stamped_modify h4 j2 _ (fun _ _ => rfl) (fun x _ hx => by rw [hj2] at hx; injection hx with hx; subst hx; exact q3.symm)
    · have hborn : (es.modify j2 fun x => { x with key := .string s, val := .nilFunc }).toList.map (·.born) = es.toList.map (·.born) := by
        apply List.ext_getElem?
        intro k
        rw [List.getElem?_map, List.getElem?_map, Array.toList_modify, List.getElem?_modify]
        split
        · cases es.toList[k]? <;> rfl
        · simp
      rw [hborn]
      have := filter_lt h4.2.1 (List.mem_map.2 ⟨e, hem, rfl⟩) hns
      omega
    · have hdr : w1.os = w.os ∧ w1.tape = w.tape ∧ w1.output = w.output ∧ w1.heap = w.heap := by rcases hw1 with rfl | rfl <;> exact ⟨rfl, rfl, rfl, rfl⟩
      refine ⟨hdr.1, hdr.2.1, hdr.2.2.1, by simp [setBlock, hdr.2.2.2], fun k hm hr => ?_⟩
      rw [set_other hm, set_other hr, hdr.2.2.2]
end
theorem Ranges.begin {w : World} {m : Nat} {F : ByteArray → Option Value} (h : MapF w m F) : ∃ left o, (Instr.range 80 (.map (some m))).run Tryz.prog w = .ok (.pointer (some ⟨w.heap.size, 0, none⟩)) (w.alloc o) ∧ Ranges (w.alloc o) m w.heap.size left := by
  obtain ⟨es, clock, h1, h2, h3, h4⟩ := h
  refine ⟨_, .mapIter (some m) clock #[] clock, ?_, ⟨es, clock, #[], heap_alloc_old h1, heap_alloc_new _ _, h2, h3, rfl⟩⟩
  simp [Instr.range, run_underlying Tryz.underlying80, MapKept.run_getObj_map h1, Result.andThen]
theorem range_none (w : World) : (Instr.range 80 (.map none)).run Tryz.prog w = .ok (.pointer (some ⟨w.heap.size, 0, none⟩)) (w.alloc (.mapIter none 0 #[] 0)) := by
  simp [Instr.range, run_underlying Tryz.underlying80, Result.andThen]
theorem next_none {w : World} {r : Nat} (h : w.heap[r]? = some (.mapIter none 0 #[] 0)) (ty : TypeId) : (Instr.next (.pointer (some ⟨r, 0, none⟩)) false ty).run Tryz.prog w = .ok (.tuple #[.bool false]) w := by
  simp [Instr.next, getObj, Sem.run, h, Result.andThen]
end Go.Proofs.YtihmgoahobbdkaaGreatDoor
