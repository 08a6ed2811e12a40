/-
  DERIVED. GIVEN WITH THE SEED: THE CARDS: each row of YtbokdbaagacnlaaGreatDoorRows.lean that lists a variable, with what it lists TIED to the program's text (the seventh form; the later family's looks); each row that meets fmt, with fmt's text TOLD by the authors' own Lean function (tested against real Go, not proved from fmt's source: count such statements apart). THE CARD IS WHAT COUNTS. Prove the row's statement (the work); the ties are given (YtbokdbaagacnlaaGreatDoorTie.lean); close each card by the builder's one call (the guide's Derived/Test/ToyasCard.lean, 'card_holds'). Laid BY PROGRAM, IN A SANDBOX (cutbox-door.mjs). By AI agents, Wed Nov 11 2026. No macro, syntax, notation, axiom, sorry.
-/
import Derived.Test.YtbokdbaagacnlaaGreatDoorRows
import GoSem.ClaimSeven
namespace Go.Proofs.YtbokdbaagacnlaaGreatDoor
namespace Rows

/-- THE TIED CARD OF 'scalerlaw.Controls'. -/
def controlsCard : Claim7 := { stood := { row := controlsRow, standIns := [], harness := (true, "bd6d21ef2de28e137612024505fe8426dc3f0043037e10fe04bfe78db4c4a994"), looks := true }, kinds := [], alts := [], laidByText := true, laidKinds := [.data, .data, .data, .data, .handle, .sentinel, .sentinel, .sentinel, .sentinel, .sentinel, .sentinel, .sentinel, .sentinel, .data, .pinned, .pinned, .pinned], laidTests := true, laidLooks := .later }
def ControlsCardSaid : Prop := Claim7.holds Tryz.pinned (.plain (OpenSpec.ofChange controlsSpec)) controlsCard

/-- THE TIED CARD OF 'scalerlaw.Decides'. -/
def decidesCard : Claim7 := { stood := { row := decidesRow, standIns := [], harness := (true, "bd6d21ef2de28e137612024505fe8426dc3f0043037e10fe04bfe78db4c4a994"), looks := true }, kinds := [], alts := [], laidByText := true, laidKinds := [.data, .data, .data, .data, .handle, .sentinel, .sentinel, .sentinel, .sentinel, .sentinel, .sentinel, .sentinel, .sentinel, .data, .pinned, .pinned, .pinned], laidTests := true, laidLooks := .later }
def DecidesCardSaid : Prop := Claim7.holds Tryz.pinned (.plain (OpenSpec.ofChange decidesSpec)) decidesCard

/-- THE SECOND FORM's CARD OF 'scalerlaw.Controls'. -/
def controlsUptoCard : Claim7 := { stood := { row := controlsUptoRow, standIns := [], harness := (true, "bd6d21ef2de28e137612024505fe8426dc3f0043037e10fe04bfe78db4c4a994"), looks := true }, kinds := [], alts := [], laidByText := true, laidKinds := [.data, .data, .data, .data, .handle, .sentinel, .sentinel, .sentinel, .sentinel, .sentinel, .sentinel, .sentinel, .sentinel, .data, .pinned, .pinned, .pinned], laidTests := true, laidLooks := .later }
def ControlsUptoCardSaid : Prop := Claim7.holds Tryz.pinned (.plain (OpenSpec.upto controlsSpec)) controlsUptoCard

/-- THE SECOND FORM's CARD OF 'scalerlaw.Decides'. -/
def decidesUptoCard : Claim7 := { stood := { row := decidesUptoRow, standIns := [], harness := (true, "bd6d21ef2de28e137612024505fe8426dc3f0043037e10fe04bfe78db4c4a994"), looks := true }, kinds := [], alts := [], laidByText := true, laidKinds := [.data, .data, .data, .data, .handle, .sentinel, .sentinel, .sentinel, .sentinel, .sentinel, .sentinel, .sentinel, .sentinel, .data, .pinned, .pinned, .pinned], laidTests := true, laidLooks := .later }
def DecidesUptoCardSaid : Prop := Claim7.holds Tryz.pinned (.plain (OpenSpec.upto decidesSpec)) decidesUptoCard
end Rows
end Go.Proofs.YtbokdbaagacnlaaGreatDoor
