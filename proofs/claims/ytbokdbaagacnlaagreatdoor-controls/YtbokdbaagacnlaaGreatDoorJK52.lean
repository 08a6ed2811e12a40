/-
 THE TIED CARD OF scalerlaw.Controls.
-/
import Derived.Test.YtbokdbaagacnlaaGreatDoorJK51
import Derived.Test.YtbokdbaagacnlaaGreatDoorTie
import Derived.Test.YtbokdbaagacnlaaGreatDoorCards
import Derived.SevenTiedAt
namespace Go.Proofs.YtbokdbaagacnlaaGreatDoor
open Go
theorem controlsCard_holds : Rows.ControlsCardSaid :=
 Claim7.holds_tied_plain_at .later [] [.data, .data, .data, .data, .handle, .sentinel, .sentinel, .sentinel, .sentinel, .sentinel, .sentinel, .sentinel, .sentinel, .data, .pinned, .pinned, .pinned] true Rows.controlsCard.stood.harness true
  controls_holds (fun _ h => by cases h) (by kernel_rfl) (fun _ h => by cases h) controls_row_tie rfl ⟨rfl, rfl⟩ (by kernel_rfl) rfl
  (fun f fn hf hfn => by
   obtain rfl : f = 3 := Option.some.inj ((show Tryz.prog.funcNamed "scaler/scalerlaw.Controls" = some 3 by kernel_rfl).symm.trans hf) |>.symm
   obtain rfl : fn = Tryz.f3 := (Option.some.inj (Tryz.func3.symm.trans hfn)).symm
   exact ⟨by kernel_rfl, fun j t ht => by
    rw [Tryz.params3] at ht
    have hm : t ∈ [9, 22, 2, 23] := by
     have h := Array.mem_of_getElem? ht
     simp at h ⊢
     grind
    have hall : ([9, 22, 2, 23].all fun u => !Tryz.prog.wantsStandIn u) = true := by kernel_rfl
    exact (show Tryz.prog.wantsStandIn t = false by simpa using List.all_eq_true.1 hall t hm)⟩)
  (by kernel_rfl)
#print axioms controlsCard_holds
end Go.Proofs.YtbokdbaagacnlaaGreatDoor
