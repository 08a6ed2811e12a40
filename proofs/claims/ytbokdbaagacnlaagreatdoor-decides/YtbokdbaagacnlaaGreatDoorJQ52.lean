import Derived.Test.YtbokdbaagacnlaaGreatDoorJQ51
import Derived.Test.YtbokdbaagacnlaaGreatDoorTie
import Derived.Test.YtbokdbaagacnlaaGreatDoorCards
import Derived.SevenTiedAt
namespace Go.Proofs.YtbokdbaagacnlaaGreatDoor
open Go
theorem decidesCard_holds : Rows.DecidesCardSaid :=
 Claim7.holds_tied_plain_at .later [] [.data, .data, .data, .data, .handle, .sentinel, .sentinel, .sentinel, .sentinel, .sentinel, .sentinel, .sentinel, .sentinel, .data, .pinned, .pinned, .pinned] true Rows.decidesCard.stood.harness true
  zMP (fun _ h => by cases h) (by kernel_rfl) (fun _ h => by cases h) decides_row_tie rfl ⟨rfl, rfl⟩ (by kernel_rfl) rfl
  (fun f fn hf hfn => by
   obtain rfl : f = 4 := Option.some.inj ((show Tryz.prog.funcNamed "scaler/scalerlaw.Decides" = some 4 by kernel_rfl).symm.trans hf) |>.symm
   obtain rfl : fn = Tryz.f4 := (Option.some.inj (Tryz.func4.symm.trans hfn)).symm
   exact ⟨by kernel_rfl, fun j t ht => by
    rw [Tryz.params4] at ht
    have hm : t ∈ [9, 22, 2, 23, 3] := by
     have h := Array.mem_of_getElem? ht
     simp at h ⊢
     grind
    have hall : ([9, 22, 2, 23, 3].all fun u => !Tryz.prog.wantsStandIn u) = true := by kernel_rfl
    exact (show Tryz.prog.wantsStandIn t = false by simpa using List.all_eq_true.1 hall t hm)⟩)
  (by kernel_rfl)
#print axioms decidesCard_holds
end Go.Proofs.YtbokdbaagacnlaaGreatDoor
