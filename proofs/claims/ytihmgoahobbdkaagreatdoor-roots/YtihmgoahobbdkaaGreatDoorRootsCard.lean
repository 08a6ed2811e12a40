/-
  THE TIED CARD OF scalerlaw.Roots.
-/
import Derived.Test.YtihmgoahobbdkaaGreatDoorRootsProofs
import Derived.Test.YtihmgoahobbdkaaGreatDoorTie
import Derived.Test.YtihmgoahobbdkaaGreatDoorCards
import Derived.SevenTiedAt
namespace Go.Proofs.YtihmgoahobbdkaaGreatDoor
open Go

theorem rootsCard_holds : Rows.RootsCardSaid :=
  Claim7.holds_tied_plain_at .later [] [.data, .sentinel, .data, .pinned, .pinned, .pinned] true Rows.rootsCard.stood.harness true
    roots_holds (fun _ h => by cases h) (by kernel_rfl) (fun _ h => by cases h) roots_row_tie rfl ⟨rfl, rfl⟩ (by kernel_rfl) rfl
    (fun f fn hf hfn => by
      obtain rfl : f = 4 := Option.some.inj ((show Tryz.prog.funcNamed "scaler/scalerlaw.Roots" = some 4 by kernel_rfl).symm.trans hf) |>.symm
      obtain rfl : fn = Tryz.f4 := (Option.some.inj (Tryz.func4.symm.trans hfn)).symm
      exact ⟨by kernel_rfl, fun j t ht => by
        rw [Tryz.params4] at ht
        have hm : t ∈ [9, 3] := by
          have h := Array.mem_of_getElem? ht
          simp at h ⊢
          grind
        have hall : ([9, 3].all fun u => !Tryz.prog.wantsStandIn u) = true := by kernel_rfl
        exact (show Tryz.prog.wantsStandIn t = false by simpa using List.all_eq_true.1 hall t hm)⟩)
    (by kernel_rfl)
#print axioms rootsCard_holds
end Go.Proofs.YtihmgoahobbdkaaGreatDoor
