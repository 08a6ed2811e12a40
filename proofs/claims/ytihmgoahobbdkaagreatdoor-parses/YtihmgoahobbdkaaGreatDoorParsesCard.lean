/-
  THE TIED CARD OF scalerlaw.Parses.
-/
import Derived.Test.YtihmgoahobbdkaaGreatDoorParsesProofs
import Derived.Test.YtihmgoahobbdkaaGreatDoorTie
import Derived.Test.YtihmgoahobbdkaaGreatDoorCards
import Derived.SevenTiedAt
namespace Go.Proofs.YtihmgoahobbdkaaGreatDoor
open Go

theorem parsesCard_holds : Rows.ParsesCardSaid :=
  Claim7.holds_tied_plain_at .later [] [.data, .handle, .sentinel, .sentinel, .sentinel, .sentinel, .sentinel, .sentinel, .sentinel, .sentinel, .data, .pinned, .pinned, .pinned] true Rows.parsesCard.stood.harness true
    parses_holds (fun _ h => by cases h) (by kernel_rfl) (fun _ h => by cases h) parses_row_tie rfl ⟨rfl, rfl⟩ (by kernel_rfl) rfl
    (fun f fn hf hfn => by
      obtain rfl : f = 3 := Option.some.inj ((show Tryz.prog.funcNamed "scaler/scalerlaw.Parses" = some 3 by kernel_rfl).symm.trans hf) |>.symm
      obtain rfl : fn = Tryz.f3 := (Option.some.inj (Tryz.func3.symm.trans hfn)).symm
      exact ⟨by kernel_rfl, fun j t ht => by
        rw [Tryz.params3] at ht
        have hm : t ∈ [9] := by
          have h := Array.mem_of_getElem? ht
          simp at h ⊢
          grind
        have hall : ([9].all fun u => !Tryz.prog.wantsStandIn u) = true := by kernel_rfl
        exact (show Tryz.prog.wantsStandIn t = false by simpa using List.all_eq_true.1 hall t hm)⟩)
    (by kernel_rfl)
#print axioms parsesCard_holds
end Go.Proofs.YtihmgoahobbdkaaGreatDoor
