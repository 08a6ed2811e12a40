/-
  THE TIED CARD OF scalerlaw.Evals.
-/
import Derived.Test.YtihmgoahobbdkaaGreatDoorJE51
import Derived.Test.YtihmgoahobbdkaaGreatDoorTie
import Derived.Test.YtihmgoahobbdkaaGreatDoorCards
import Derived.SevenTiedAt
namespace Go.Proofs.YtihmgoahobbdkaaGreatDoor
open Go

theorem evalsCard_holds : Rows.EvalsCardSaid :=
  Claim7.holds_tied_plain_at .later [] [.data, .data, .data, .data, .handle, .sentinel, .sentinel, .sentinel, .sentinel, .sentinel, .sentinel, .sentinel, .sentinel, .data, .pinned, .pinned, .pinned] true Rows.evalsCard.stood.harness true
    evals_holds (fun _ h => by cases h) (by kernel_rfl) (fun _ h => by cases h) evals_row_tie rfl ⟨rfl, rfl⟩ (by kernel_rfl) rfl
    (fun f fn hf hfn => by
      obtain rfl : f = 6 := Option.some.inj ((show Tryz.prog.funcNamed "scaler/scalerlaw.Evals" = some 6 by kernel_rfl).symm.trans hf) |>.symm
      obtain rfl : fn = Tryz.f6 := (Option.some.inj (Tryz.func6.symm.trans hfn)).symm
      exact ⟨by kernel_rfl, fun j t ht => by
        rw [Tryz.params6] at ht
        have hm : t ∈ [9, 2] := by
          have h := Array.mem_of_getElem? ht
          simp at h ⊢
          grind
        have hall : ([9, 2].all fun u => !Tryz.prog.wantsStandIn u) = true := by kernel_rfl
        exact (show Tryz.prog.wantsStandIn t = false by simpa using List.all_eq_true.1 hall t hm)⟩)
    (by kernel_rfl)
#print axioms evalsCard_holds
end Go.Proofs.YtihmgoahobbdkaaGreatDoor
