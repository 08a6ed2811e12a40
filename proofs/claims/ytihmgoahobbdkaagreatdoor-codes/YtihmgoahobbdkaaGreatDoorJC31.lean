/-
  MAPS FROM TEXTS TO FUNCTIONS: laws.
-/
import Derived.Test.YtihmgoahobbdkaaGreatDoorProg
import Derived.Test.YtihmgoahobbdkaaGreatDoorJC2
import Derived.MapKept
import Derived.Maps.Own
namespace Go.Proofs.YtihmgoahobbdkaaGreatDoor
open Go.RowKit

/-- Block m is a map that reads as F. -/
def MapF (w : World) (m : Nat) (F : ByteArray → Option Value) : Prop := ∃ es clock, w.heap[m]? = some (.map es clock) ∧ (∀ e ∈ es.toList, ∃ s, e.key = .string s) ∧ MapKept.Stamped es clock ∧ ∀ s v, F s = some v ↔ ∃ e ∈ es.toList, e.key = .string s ∧ e.val = v
theorem Tryz.zeroProbe (w : World) : (zeroValue 86).run Tryz.prog w = .ok .nilFunc w := by kernel_rfl
section
variable {w w' : World} {m : Nat} {F : ByteArray → Option Value}
theorem MapF.new (w : World) : MapF (w.alloc (.map #[] 0)) w.heap.size (fun _ => none) := ⟨#[], 0, heap_alloc_new _ _, by simp, MapKept.stamped_empty 0, by simp⟩
theorem MapF.block (h : MapF w m F) (hb : w'.heap[m]? = w.heap[m]?) : MapF w' m F := by
  obtain ⟨es, clock, h1, h2⟩ := h
  exact ⟨es, clock, hb.trans h1, h2⟩
theorem MapF.lt (h : MapF w m F) : m < w.heap.size := by obtain ⟨es, clock, h1, -⟩ := h; exact heap_lt h1
theorem MapF.congr {G : ByteArray → Option Value} (h : MapF w m F) (e : ∀ s, F s = G s) : MapF w m G := by
  obtain ⟨es, clock, h1, h2, h3, h4⟩ := h
  exact ⟨es, clock, h1, h2, h3, fun s v => by rw [← e]; exact h4 s v⟩
theorem MapF.find (h : MapF w m F) (s : ByteArray) : ∃ es clock, w.heap[m]? = some (.map es clock) ∧ ((Instr.findNow .string (.string s) es.toList 0 = some none ∧ F s = none) ∨ ∃ j e, Instr.findNow .string (.string s) es.toList 0 = some (some (j, e.val)) ∧ es.toList[j]? = some e ∧ e.key = .string s ∧ F s = some e.val) := by
  obtain ⟨es, clock, h1, h2, h3, h4⟩ := h
  refine ⟨es, clock, h1, ?_⟩
  rcases MapKept.findNow_spec (d := .string) (k := .string s) (by simp [MapKept.IsKey]) es.toList 0 (fun x hx => by obtain ⟨t, e⟩ := h2 x hx; rw [e]; simp [MapKept.IsKey]) with ⟨q1, q2⟩ | ⟨j, e, q1, q2, q3⟩
  · refine .inl ⟨q1, ?_⟩
    cases e : F s with
    | none => rfl
    | some v => obtain ⟨x, hx, hk, -⟩ := (h4 s v).1 e; exact absurd hk (q2 x hx)
  · exact .inr ⟨j, e, by simpa using q1, q2, q3, (h4 s e.val).2 ⟨e, List.mem_of_getElem? q2, q3, rfl⟩⟩
theorem MapF.lookup (h : MapF w m F) (s : ByteArray) : (Instr.lookup 80 (.map (some m)) (.string s) false).run Tryz.prog w = .ok ((F s).getD .nilFunc) w := by
  obtain ⟨es, clock, h1, h2⟩ := h.find s
  have hc : ∀ b, (Instr.checkKey b 10000 9 (.string s)).run Tryz.prog w = .ok () w := fun b => MapKept.run_checkKey (k := .string s) Tryz.underlying9 (by simp [MapKept.IsKey]) b 9999
  rcases h2 with ⟨q1, q2⟩ | ⟨j, e, q1, -, -, q4⟩
  · simp [Instr.lookup, run_underlying Tryz.underlying80, MapKept.run_getObj_map h1, hc, MapKept.run_findKey Tryz.underlying9 q1, Result.andThen, q2]
  · simp [Instr.lookup, run_underlying Tryz.underlying80, MapKept.run_getObj_map h1, hc, MapKept.run_findKey Tryz.underlying9 q1, Result.andThen, q4]
theorem lookup_none (w : World) (s : ByteArray) : (Instr.lookup 80 (.map none) (.string s) false).run Tryz.prog w = .ok .nilFunc w := by
  have hc : ∀ b, (Instr.checkKey b 10000 9 (.string s)).run Tryz.prog w = .ok () w := fun b => MapKept.run_checkKey (k := .string s) Tryz.underlying9 (by simp [MapKept.IsKey]) b 9999
  have hf : Instr.findNow .string (.string s) ([] : List MapEntry) 0 = some none := rfl
  simp [Instr.lookup, run_underlying Tryz.underlying80, hc, MapKept.run_findKey Tryz.underlying9 hf, Result.andThen]
theorem MapF.update (h : MapF w m F) (s : ByteArray) (v : Value) : ∃ w', (Instr.mapUpdate 80 (.map (some m)) (.string s) v).run Tryz.prog w = .ok () w' ∧ MapF w' m (fun t => if t = s then some v else F t) ∧ w.grownBy w' (some m) := by
  have hh := h
  obtain ⟨es, clock, h1, h2, h3, h4⟩ := hh
  obtain ⟨es0, clock0, h10, hf⟩ := h.find s
  rw [h1] at h10
  injection h10 with h10
  injection h10 with e1 e2
  subst e1 e2
  have hc : ∀ b, (Instr.checkKey b 10000 9 (.string s)).run Tryz.prog w = .ok () w := fun b => MapKept.run_checkKey (k := .string s) Tryz.underlying9 (by simp [MapKept.IsKey]) b 9999
  have hgr : ∀ o, w.grownBy { w with heap := w.heap.setIfInBounds m o } (some m) := fun o => ⟨rfl, rfl, rfl, by simp, fun k hk hne => by
    have : m ≠ k := fun e => hne (by rw [e])
    simp [this]⟩
  have hsame : ∀ o, ({ w with heap := w.heap.setIfInBounds m o } : World).heap[m]? = some o := fun o => by
    have := heap_lt h1
    simp [this]
  rcases hf with ⟨q1, q2⟩ | ⟨j, e, q1, q2, q3, q4⟩
  · refine ⟨_, by simp [Instr.mapUpdate, run_underlying Tryz.underlying80, MapKept.run_getObj_map h1, hc, MapKept.run_findKey Tryz.underlying9 q1, MapKept.run_setObj_map _ h1, Result.andThen]; rfl, ⟨_, _, hsame _, ?_, ?_, ?_⟩, hgr _⟩
    · intro x hx
      simp at hx
      rcases hx with hx | rfl
      · exact h2 x (by simpa using hx)
      · exact ⟨s, rfl⟩
    · exact MapKept.stamped_push h3 fun x hx e => by
        have := (h4 s x.val).2 ⟨x, hx, e, rfl⟩
        rw [q2] at this
        cases this
    · intro t u
      by_cases hts : t = s
      · subst hts
        simp only [if_true]
        constructor
        · intro q
          injection q with q
          subst q
          exact ⟨⟨.string t, v, clock⟩, by simp, rfl, rfl⟩
        · rintro ⟨x, hx, hk, rfl⟩
          simp at hx
          rcases hx with hx | rfl
          · have := (h4 t x.val).2 ⟨x, by simpa using hx, hk, rfl⟩
            rw [q2] at this
            cases this
          · rfl
      · show (if t = s then some v else F t) = some u ↔ _
        rw [if_neg hts, h4]
        constructor
        · rintro ⟨x, hx, hk, hv⟩
          exact ⟨x, by simp at hx ⊢; exact .inl hx, hk, hv⟩
        · rintro ⟨x, hx, hk, hv⟩
          simp at hx
          rcases hx with hx | rfl
          · exact ⟨x, by simpa using hx, hk, hv⟩
          · injection hk with hk
            exact absurd hk.symm hts
  · have hsb : Instr.sameBits 10000 (.string s) (.string s) = true := by
      unfold Instr.sameBits
      exact (MapKept.bytes_beq s s).2 rfl
    have hjs : es[j]? = some e := by simpa using q2
    have hkt : (Instr.keyThatStays (((es[j]?).map (·.key)).getD (.string s)) (.string s)).run Tryz.prog w = .ok (.string s) w := by
      rw [hjs]
      simp [Instr.keyThatStays, q3, hsb]
    refine ⟨_, by simp [Instr.mapUpdate, run_underlying Tryz.underlying80, MapKept.run_getObj_map h1, hc, MapKept.run_findKey Tryz.underlying9 q1, MapKept.run_setObj_map _ h1, Result.andThen, hkt]; rfl, ⟨_, _, hsame _, ?_, ?_, ?_⟩, hgr _⟩
    · intro x hx
      obtain ⟨k, hk⟩ := List.getElem?_of_mem hx
      rw [Array.toList_modify, List.getElem?_modify] at hk
      split at hk
      · cases hq : es.toList[k]? with
        | none => rw [hq] at hk; cases hk
        | some y => rw [hq] at hk; injection hk with hk; exact ⟨s, by rw [← hk]⟩
      · exact h2 x (List.mem_of_getElem? (by simpa using hk))
    · exact MapKept.stamped_modify h3 j _ (fun _ _ => rfl) (fun x _ hx => by rw [hjs] at hx; injection hx with hx; subst hx; exact q3.symm)
    · have huniq : ∀ (k : Nat) (x : MapEntry), es.toList[k]? = some x → x.key = .string s → k = j := fun k x hx hk => by
        have a1 : (es.toList.map (·.key))[k]? = some (.string s) := by rw [List.getElem?_map, hx]; simp [hk]
        have a2 : (es.toList.map (·.key))[j]? = some (.string s) := by rw [List.getElem?_map, q2]; simp [q3]
        obtain ⟨b1, c1⟩ := List.getElem?_eq_some_iff.1 a1
        obtain ⟨b2, c2⟩ := List.getElem?_eq_some_iff.1 a2
        rcases Nat.lt_trichotomy k j with q | q | q
        · exact absurd (c1.trans c2.symm) (List.pairwise_iff_getElem.1 h3.2.2 k j b1 b2 q)
        · exact q
        · exact absurd (c2.trans c1.symm) (List.pairwise_iff_getElem.1 h3.2.2 j k b2 b1 q)
      have hget : ∀ k, (es.modify j fun x => { x with key := .string s, val := v }).toList[k]? = if j = k then (es.toList[k]?).map (fun x => { x with key := .string s, val := v }) else es.toList[k]? := fun k => by
        rw [Array.toList_modify, List.getElem?_modify]
        split <;> simp
      intro t u
      show (if t = s then some v else F t) = some u ↔ _
      by_cases hts : t = s
      · subst hts
        rw [if_pos rfl]
        constructor
        · intro q
          injection q with q
          subst q
          refine ⟨{ e with key := .string t, val := v }, List.mem_of_getElem? (i := j) ?_, rfl, rfl⟩
          rw [hget, if_pos rfl, q2]
          rfl
        · rintro ⟨x, hx, hk, rfl⟩
          obtain ⟨k, hk2⟩ := List.getElem?_of_mem hx
          rw [hget] at hk2
          split at hk2
          · cases hq : es.toList[k]? with
            | none => rw [hq] at hk2; cases hk2
            | some y => rw [hq] at hk2; injection hk2 with hk2; rw [← hk2]
          · rename_i hne
            exact absurd (huniq k x hk2 hk).symm hne
      · rw [if_neg hts, h4]
        constructor
        · rintro ⟨x, hx, hk, hv⟩
          obtain ⟨k, hk2⟩ := List.getElem?_of_mem hx
          have hne : ¬ j = k := fun e2 => by
            subst e2
            rw [q2] at hk2
            injection hk2 with hk2
            subst hk2
            rw [q3] at hk
            injection hk with hk
            exact hts hk.symm
          exact ⟨x, List.mem_of_getElem? (i := k) (by rw [hget, if_neg hne]; exact hk2), hk, hv⟩
        · rintro ⟨x, hx, hk, hv⟩
          obtain ⟨k, hk2⟩ := List.getElem?_of_mem hx
          rw [hget] at hk2
          split at hk2
          · cases hq : es.toList[k]? with
            | none => rw [hq] at hk2; cases hk2
            | some y =>
              rw [hq] at hk2
              injection hk2 with hk2
              rw [← hk2] at hk
              injection hk with hk
              exact absurd hk.symm hts
          · exact ⟨x, List.mem_of_getElem? hk2, hk, hv⟩
end
/-- 'm[k] = v' at the operation. -/
theorem wpList_mapUpdate_F (w : World) {ops : Array Oper} {rest : List Oper} {o : Oper} {a : Act} {Q : Exit → Act → World → Prop}
    (hg : o.guard = none) (m x v : Operand) (hop : o.op = Op.mapUpdate 80 m x v) (b : Nat) (F : ByteArray → Option Value) (s : ByteArray) (val : Value)
    (hm : a.eval m = .map (some b)) (h : MapF w b F) (hx : a.eval x = .string s) (hv : a.eval v = val)
    (hK : ∀ w', MapF w' b (fun t => if t = s then some val else F t) → w.grownBy w' (some b) → wpList Tryz.prog ops Q rest (a.put o.dst undef) w') :
    wpList Tryz.prog ops Q (o :: rest) a w := by
  refine wpList_plain hg fun K' hK' => ?_
  obtain ⟨w', hrun, r1, r2⟩ := h.update s val
  unfold Oper.wp
  simp [execOp, hop, hm, hx, hv, hrun, Result.andThen]
  exact hK' _ _ (hK w' r1 r2)
end Go.Proofs.YtihmgoahobbdkaaGreatDoor
