/-
  THE TIED CARD OF scalerkeep.Truths.
-/
import Derived.Test.YtaghcjpoihkpjaaGreatDoorTruthsProofsJ
import Derived.Test.YtaghcjpoihkpjaaGreatDoorTie
import Derived.Test.YtaghcjpoihkpjaaGreatDoorCards
import Derived.SevenTiedAt
namespace Go.Proofs.YtaghcjpoihkpjaaGreatDoor
open Go

theorem truthsCard_holds : Rows.TruthsCardSaid :=
  Claim7.holds_tied_plain_at .later [] [.data, .data, .data, .data, .handle, .sentinel, .sentinel, .sentinel, .sentinel, .sentinel, .sentinel, .sentinel, .sentinel, .data, .pinned, .pinned, .pinned] true Rows.truthsCard.stood.harness true
    truths_holds (fun _ h => by cases h) (by kernel_rfl) (fun _ h => by cases h) truths_row_tie rfl ⟨rfl, rfl⟩ (by kernel_rfl) rfl
    (fun f fn hf hfn => by
      obtain rfl : f = 4 := Option.some.inj ((show Tryz.prog.funcNamed "scaler/scalerkeep.Truths" = some 4 by kernel_rfl).symm.trans hf) |>.symm
      obtain rfl : fn = Tryz.f4 := (Option.some.inj (Tryz.func4.symm.trans hfn)).symm
      exact ⟨by kernel_rfl, fun j t ht => by
        rw [Tryz.params4] at ht
        have hm : t ∈ [21] := by
          have h := Array.mem_of_getElem? ht
          simp at h ⊢
          grind
        have hall : ([21].all fun u => !Tryz.prog.wantsStandIn u) = true := by kernel_rfl
        exact (show Tryz.prog.wantsStandIn t = false by simpa using List.all_eq_true.1 hall t hm)⟩)
    (by kernel_rfl)
#print axioms truthsCard_holds
end Go.Proofs.YtaghcjpoihkpjaaGreatDoor
