/-
  scaler's each, empty and Names, WALKED.
-/
import Derived.Test.YtihmgoahobbdkaaGreatDoorRooD
namespace Go.Proofs.YtihmgoahobbdkaaGreatDoor
open Go.RowKit Go.Lib

set_option maxRecDepth 1000000 in
theorem code_each {w : World} (ao : Option Addr) (m cp : Nat) :
    Calls Tryz.prog 49 #[.slice ao m cp] w fun e w' => e = .returned (.func (.func 75) #[] #[.pointer (some ⟨w.heap.size, 0, none⟩)]) ∧ w' = w.alloc (.cells #[.slice ao m cp] 30) := by
  have hmf : ∀ (fn : Fn) (first cap : Array Value) (w : World), (Instr.makeFunc fn first cap).run Tryz.prog w = .ok (.func fn first cap) w := fun _ _ _ _ => rfl
  go_enter Tryz.func49, Tryz.ntmps49
  go_wp2
  go_ret
  exact ⟨rfl, rfl⟩

set_option maxRecDepth 1000000 in
theorem code_empty {w : World} {pb : Nat} {a : Addr} (h : w.heap[pb]? = some (.cells #[.pointer (some a)] 109 (0, 0))) :
    Calls Tryz.prog 48 #[.pointer (some ⟨pb, 0, none⟩)] w fun e w' => e = .returned (.bool false) ∧ w' = w := by
  have c0 := cell_of_heap (i := 0) h rfl
  clear h
  go_enter Tryz.func48, Tryz.ntmps48
  go_wp2
  go_ret
  exact ⟨rfl, rfl⟩

set_option maxRecDepth 1000000 in
theorem code_Names {w : World} {pb tb : Nat} {rv : Value} {ao : Option Addr} {m cp : Nat} (h : w.heap[pb]? = some (.cells #[.pointer (some ⟨tb, 0, none⟩)] 109 (0, 0))) (ht : w.heap[tb]? = some (.cells #[rv, .slice ao m cp] 129 (0, 0))) :
    Calls Tryz.prog 28 #[.pointer (some ⟨pb, 0, none⟩)] w fun e w' => e = .returned (.func (.func 75) #[] #[.pointer (some ⟨w.heap.size, 0, none⟩)]) ∧ w' = w.alloc (.cells #[.slice ao m cp] 30) := by
  have hem := code_empty h
  have c0 : w.cell? ⟨pb, 0, none⟩ = some (.pointer (some ⟨tb, 0, none⟩)) := cell_of_heap (i := 0) h rfl
  have c1 : w.cell? ⟨tb, 1, none⟩ = some (.slice ao m cp) := cell_of_heap (i := 1) ht rfl
  have hea := code_each (w := w) ao m cp
  clear h ht
  go_enter Tryz.func28, Tryz.ntmps28
  go_wp2_with fail
  refine hem.mono ?_
  rintro e w' ⟨rfl, hw⟩
  have hw := hw.symm
  subst hw
  go_wp2_with fail
  refine hea.mono ?_
  rintro e w' ⟨rfl, rfl⟩
  go_wp2
  go_ret
  exact ⟨rfl, rfl⟩
end Go.Proofs.YtihmgoahobbdkaaGreatDoor
