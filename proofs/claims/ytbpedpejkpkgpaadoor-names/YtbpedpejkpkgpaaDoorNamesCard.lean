/-
  THE TIED CARD OF scalerlaw.Names.
-/
import Derived.Test.YtbpedpejkpkgpaaDoorNamesProofs
import Derived.Test.YtbpedpejkpkgpaaDoorTie
import Derived.Test.YtbpedpejkpkgpaaDoorCards
import Derived.SevenTiedAt
namespace Go.Proofs.YtbpedpejkpkgpaaDoor
open Go

theorem namesCard_holds : Rows.NamesCardSaid :=
  Claim7.holds_tied_plain_at .later [] [.handle, .sentinel, .sentinel, .sentinel, .sentinel, .sentinel, .sentinel, .sentinel, .sentinel] true (true, "15df27384b3406fe1f9aa8de0fcfe6ff2de4289f4fe2da34a45d3016342b11da") true
    names_holds (fun _ h => by cases h) (by kernel_rfl) (fun _ h => by cases h) names_row_tie rfl ⟨rfl, rfl⟩ (by kernel_rfl) rfl
    (fun f fn hf hfn => by
      obtain rfl : f = 3 := Option.some.inj ((show Tryd.prog.funcNamed "scaler/scalerlaw.Names" = some 3 by kernel_rfl).symm.trans hf) |>.symm
      obtain rfl : fn = Tryd.f3 := (Option.some.inj (Tryd.func3.symm.trans hfn)).symm
      exact ⟨by kernel_rfl, fun j t ht => by
        rw [Tryd.params3] at ht
        simp at ht⟩)
    (by kernel_rfl)
#print axioms namesCard_holds
end Go.Proofs.YtbpedpejkpkgpaaDoor
