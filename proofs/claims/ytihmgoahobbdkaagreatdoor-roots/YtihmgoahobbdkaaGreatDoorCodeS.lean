/-
  THE PROGRAM's READER: place AND stuck, WALKED.
-/
import Derived.Test.YtihmgoahobbdkaaGreatDoorCodeD
namespace Go.Proofs.YtihmgoahobbdkaaGreatDoor
open Go.RowKit Go.Lib

section
variable {s : ByteArray} {R : Nat}
set_option maxRecDepth 1000000 in
theorem code_place {w : World} {I : Nat} {ms : List ByteArray} (h : CStM s R w I ms) :
    Calls Tryz.prog 95 #[.pointer (some ⟨R, 0, none⟩)] w fun e w' => e = .returned (.agg #[.int .i64 (pl (toks s) I)]) ∧ Below w.heap.size w w' := by
  obtain ⟨txt, mv, h1, -⟩ := h.blk
  have lR := heap_lt h1
  have c3 := cell_of_heap (i := 3) h1 rfl
  clear h1 h
  go_enter Tryz.func95, Tryz.ntmps95
  go_wp2
  refine bodyPost_ret (v := .agg #[.int .i64 (pl (toks s) I)]) (by simp [results, Tryz.results95, go_sem]) rfl ⟨rfl, ?_⟩
  exact (Below.refl _ _).alloc (Nat.le_refl _) _
set_option maxRecDepth 1000000 in
theorem code_stuck {w : World} {I : Nat} {ms : List ByteArray} (h : CStM s R w I ms) :
    Calls Tryz.prog 69 #[.pointer (some ⟨R, 0, none⟩)] w fun e w' => ∃ b, e = .returned (.iface 110 (.pointer (some ⟨b, 0, none⟩))) ∧ Below w.heap.size w w' ∧ w'.heap[b]? = some (.cells #[.int .i64 (pl (toks s) I)] 114 (0, 0)) := by
  have hpl := code_place h
  clear h
  go_enter Tryz.func69, Tryz.ntmps69
  go_wp2_with fail
  refine hpl.mono ?_
  rintro e w1 ⟨rfl, hb⟩
  have HB : Hid (Below w.heap.size w w1) := hb
  clear hpl hb
  go_wp2
  go_ret
  exact ⟨_, rfl, HB.out.alloc HB.out.size _, heap_alloc_new _ _⟩

end
end Go.Proofs.YtihmgoahobbdkaaGreatDoor
